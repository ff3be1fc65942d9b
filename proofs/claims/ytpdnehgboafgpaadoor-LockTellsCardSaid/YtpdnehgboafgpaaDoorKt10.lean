/-
  TEXTS OF ONE PROOF, merged: LtD, LtE, WaN, LtF, WaB, LockTellsW.
-/
import Derived.Test.YtpdnehgboafgpaaDoorKt9
namespace Go.Proofs.YtpdnehgboafgpaaDoor
open Go.RowKit Go.Shelf
theorem take_all {P : Lk → Prop} {l : List Lk} {k : Nat} (hk : k < l.length) (h : ∀ y ∈ l.take k, P y) (h2 : P l[k]) : ∀ y ∈ l.take (k + 1), P y := by
  intro y hy
  rw [List.take_succ_eq_append_getElem hk] at hy
  rcases List.mem_append.1 hy with h3 | h3
  · exact h y h3
  · obtain rfl : y = l[k] := by simpa using h3
    exact h2
theorem okH_take2 {l : List Lk} {k : Nat} (hk : k < l.length) (h : okH (l.take k)) (h2 : ∀ y ∈ l.take k, clashL l[k] y = false ∧ sameL l[k] y = false) : okH (l.take (k + 1)) := by
  rw [List.take_succ_eq_append_getElem hk]
  unfold okH
  rw [List.pairwise_append]
  refine ⟨h, by simp, fun a ha b hb => ?_⟩
  obtain rfl : b = l[k] := by simpa using hb
  exact h2 a ha
theorem pw_at {H Q : List Lk} {i k : Nat} (hk : k < H.length) (hi : i < H.length) (h : k < i) (ok : okLk H Q) : clashL H[i] H[k] = false ∧ sameL H[i] H[k] = false :=
  List.pairwise_iff_getElem.1 ok.2.2.2.1 k i hk hi h
theorem nodup_take2 {l : List Lk} {k : Nat} (hk : k < l.length) (h : nodup (l.take k)) (h2 : ∀ y ∈ l.take k, y.owner ≠ l[k].owner) : nodup (l.take (k + 1)) := by
  rw [List.take_succ_eq_append_getElem hk]
  unfold nodup
  rw [List.pairwise_append]
  refine ⟨h, by simp, fun a ha b hb => ?_⟩
  obtain rfl : b = l[k] := by simpa using hb
  exact h2 a ha
theorem okQ_of {H Q : List Lk} (hn : nodup Q) (hb : ∀ j (h : j < Q.length), blk Q[j] H (Q.take j) = true) : okQ H Q := fun i hi => ⟨hb i hi, fun y hy => by
  obtain ⟨k, hk, rfl⟩ := List.mem_take_iff_getElem.1 hy
  exact List.pairwise_iff_getElem.1 hn k i (by omega) hi (by omega)⟩
theorem blk_mark {x : Lk} {H Q : List Lk} (hH : ∀ y ∈ H, 0 ≤ y.owner ∧ y.owner < 4) (hQ : ∀ y ∈ Q, 0 ≤ y.owner ∧ y.owner < 4) : match blk x H Q with | true => 0 < (markL (mkF (blkO x (H ++ Q))) 4).length | false => (markL (mkF (blkO x (H ++ Q))) 4).length = 0 := by
  cases h : blk x H Q with
  | true =>
    have : ∃ y, y ∈ H ++ Q ∧ clashL x y = true := by
      rcases blk_iff.1 h with ⟨y, h1, h2⟩ | ⟨y, h1, h2⟩
      · exact ⟨y, List.mem_append_left _ h1, h2⟩
      · exact ⟨y, List.mem_append_right _ h1, h2⟩
    obtain ⟨y, hy, hc⟩ := this
    have ho : 0 ≤ y.owner ∧ y.owner < 4 := by
      rcases List.mem_append.1 hy with h1 | h1
      · exact hH y h1
      · exact hQ y h1
    refine List.length_pos_of_mem (a := y.owner) ?_
    unfold markL
    refine List.mem_map.2 ⟨y.owner.toNat, List.mem_filter.2 ⟨List.mem_range.2 (by omega), ?_⟩, by omega⟩
    unfold mkF blkO
    refine decide_eq_true (List.mem_map.2 ⟨y, List.mem_filter.2 ⟨hy, hc⟩, by omega⟩)
  | false =>
    obtain ⟨h1, h2⟩ := blk_no.1 h
    have e : blkO x (H ++ Q) = [] := by
      unfold blkO
      rw [List.map_eq_nil_iff, List.filter_eq_nil_iff]
      intro y hy
      rcases List.mem_append.1 hy with h3 | h3
      · rw [h1 y h3]; simp
      · rw [h2 y h3]; simp
    rw [e]
    have : markL (mkF []) 4 = [] := by decide
    simp [this]
set_option maxRecDepth 100000 in
set_option maxHeartbeats 4000000 in
theorem refChk_any (w : World) {S : Nat → Prop} {v : Value} {H Q : List Lk} (h : RdLs S w v H Q) (hnH : H.length ≤ 1000000) (hnQ : Q.length ≤ 1000000) :
    Calls Tryd.prog 15 #[v] w fun e w' => e = .returned (.bool (decide (okLk H Q))) ∧ Below w.heap.size w w' := by
  obtain ⟨aH, cH, aQ, cQ, rfl, hH, hQ⟩ := h
  obtain ⟨W, hW, q, Bl, hsz⟩ := spBox w 24 [.slice aH H.length cH, .slice aQ Q.length cQ]
  clear hsz
  go_enter Tryd.func15, Tryd.ntmps15
  go_upto_region 1 with (fail)
  rw [show w.alloc (.cells #[.slice aH H.length cH, .slice aQ Q.length cQ] 24) = W from hW.symm]
  clear hW
  have b0 := Bl.cell (i := 0) rfl
  have b1 := Bl.cell (i := 1) rfl
  rcases Nat.lt_or_ge 40 (H.length + Q.length) with h1 | h1
  · have d1 : decide ((40 : Int) < (H.length : Int) + (Q.length : Int)) = true := decide_eq_true (by omega)
    have HK := Lib.hid (show decide (okLk H Q) = false from decide_eq_false fun h => by have := h.1; omega)
    go_wp2_with fail
    go_ret
    exact ⟨by rw [HK.out]; rfl, q⟩
  have d1 : decide ((40 : Int) < (H.length : Int) + (Q.length : Int)) = false := decide_eq_false (by omega)
  go_upto_region 4 with (fail)
  clear b0 b1 d1
  go_loopw [3] (fun iv wr => ∃ (i : Nat), iv = .int .i64 (i : Int) ∧ i ≤ H.length ∧ (∀ y ∈ H.take i, fine y = true) ∧ okH (H.take i) ∧ BoxN wr w.heap.size 24 [.slice aH H.length cH, .slice aQ Q.length cQ] ∧ Below w.heap.size w wr) (fun iv _ => H.length - (intOf iv).toNat)
  case atStart => exact ⟨0, rfl, Nat.zero_le _, by simp, by simp [okH], Bl, q⟩
  case round =>
  clear Bl q
  obtain ⟨i, rfl, hil, hf0, ho0, Bl, q⟩ := hrel
  replace hf0 := Lib.hid hf0
  replace ho0 := Lib.hid ho0
  rcases Nat.lt_or_ge i H.length with hlt | hge
  · obtain ⟨b, off, xA, xB, xC, xD, eL, _, c0, c1, c2, c3, c4, c5, c6, k1, k2, k3⟩ := (hH.below q).lk i hlt
    obtain ⟨x, ex⟩ : ∃ y, y = H[i] := ⟨_, rfl⟩
    rw [← ex] at c0 c1 c2 c3 c4 c5 c6 k1 k2 k3
    replace ex := Lib.hid ex
    have rx : RdLk (fun _ => True) wr (.agg #[.int .i64 x.owner, .bool x.whole, .int .i64 x.span.table, .slice xA x.span.lo.length xB, .slice xC x.span.hi.length xD, .bool x.span.isOpen, .int .i64 x.mode]) x := ⟨_, _, _, _, rfl, k1.weak fun _ _ => trivial, k2.weak fun _ _ => trivial, k3⟩
    clear k1 k2 k3
    subst eL
    have d0 : decide ((i : Int) < (H.length : Int)) = true := decide_eq_true (by omega)
    have b0 := Bl.cell (i := 0) rfl
    have b1 := Bl.cell (i := 1) rfl
    go_upto_region 7 with (first | (refine wpList_boxNew (vs := [.int .i64 0, .bool false, .int .i64 0, .slice none 0 0, .slice none 0 0, .bool false, .int .i64 0]) (by kernel_rfl) rfl rfl ?_; intro wa hba hBa) | (refine wpList_boxStore (us := [.int .i64 x.owner, .bool x.whole, .int .i64 x.span.table, .slice xA x.span.lo.length xB, .slice xC x.span.hi.length xD, .bool x.span.isOpen, .int .i64 x.mode]) (by kernel_rfl) rfl rfl rfl rfl rfl rfl hBa rfl ?_; intro wb hgw Bx) | fail)
    try go_simp
    have hbw := hba.grown hgw hba.size fun k hk => by injection hk with hk; omega
    replace Bl := Bl.below hbw Bl.lt
    replace rx := rx.below hbw
    replace q := q.trans (hbw.mono q.size)
    clear hbw hgw hba hBa
    clear b0 b1 d0 c0 c1 c2 c3 c4 c5 c6
    have x0 := Bx.cell (i := 0) rfl
    have x1 := Bx.cell (i := 1) rfl
    have x2 := Bx.cell (i := 2) rfl
    have x3 := Bx.cell (i := 3) rfl
    have x4 := Bx.cell (i := 4) rfl
    have x5 := Bx.cell (i := 5) rfl
    have x6 := Bx.cell (i := 6) rfl
    have hcl := rMay_any _ rx
    go_wp2_with fail
    refine hcl.mono ?_
    rintro e wc ⟨rfl, hb⟩
    clear hcl x0 x1 x2 x3 x4 x5 x6
    replace Bl := Bl.below hb Bl.lt
    replace rx := rx.below hb
    replace Bx := Bx.below hb Bx.lt
    replace q := q.trans (hb.mono q.size)
    clear hb
    cases hfx : fine x with
    | false =>
      have HK := Lib.hid (show decide (okLk H Q) = false from decide_eq_false fun h => by have := h.2.1 _ (List.getElem_mem hlt); rw [← ex.out, hfx] at this; cases this)
      clear hfx
      go_wp2_with fail
      go_ret
      exact ⟨by rw [HK.out]; rfl, q⟩
    | true =>
      replace hfx := Lib.hid hfx
      obtain ⟨bx, hbx⟩ : ∃ b, b = wr.heap.size := ⟨_, rfl⟩
      rw [← hbx] at Bx
      go_upto_region 11 with (fail)
      rw [← hbx]
      clear hbx
      go_loopw [6] (fun kv wr => ∃ (k : Nat), kv = .int .i64 (k : Int) ∧ k ≤ i ∧ (∀ y ∈ H.take k, clashL x y = false ∧ sameL x y = false) ∧ BoxN wr w.heap.size 24 [.slice (some ⟨b, off, none⟩) H.length cH, .slice aQ Q.length cQ] ∧ BoxN wr bx 29 [.int .i64 x.owner, .bool x.whole, .int .i64 x.span.table, .slice xA x.span.lo.length xB, .slice xC x.span.hi.length xD, .bool x.span.isOpen, .int .i64 x.mode] ∧ RdLk (fun _ => True) wr (.agg #[.int .i64 x.owner, .bool x.whole, .int .i64 x.span.table, .slice xA x.span.lo.length xB, .slice xC x.span.hi.length xD, .bool x.span.isOpen, .int .i64 x.mode]) x ∧ Below w.heap.size w wr) (fun iv _ => i - (intOf iv).toNat)
      case atStart => exact ⟨0, rfl, Nat.zero_le _, by simp, Bl, Bx, rx, q⟩
      case round =>
      clear Bl Bx rx q
      obtain ⟨k, rfl, hki, hall, Bl, Bx, rx, q⟩ := hrel
      replace hall := Lib.hid hall
      rcases Nat.lt_or_ge k i with hlt2 | hge2
      · have hkH : k < H.length := by omega
        obtain ⟨b2, o2, yA, yB, yC, yD, eL, _, g0, g1, g2, g3, g4, g5, g6, k1, k2, k3⟩ := (hH.below q).lk k hkH
        obtain ⟨y, ey⟩ : ∃ y, y = H[k] := ⟨_, rfl⟩
        rw [← ey] at g0 g1 g2 g3 g4 g5 g6 k1 k2 k3
        replace ey := Lib.hid ey
        have ry : RdLk (fun _ => True) wr (.agg #[.int .i64 y.owner, .bool y.whole, .int .i64 y.span.table, .slice yA y.span.lo.length yB, .slice yC y.span.hi.length yD, .bool y.span.isOpen, .int .i64 y.mode]) y := ⟨_, _, _, _, rfl, k1.weak fun _ _ => trivial, k2.weak fun _ _ => trivial, k3⟩
        clear k1 k2 k3
        injection eL with eL
        injection eL with f1 f2 _
        subst f1 f2
        have d0 : decide ((k : Int) < (i : Int)) = true := decide_eq_true (by omega)
        have b0 := Bl.cell (i := 0) rfl
        have b1 := Bl.cell (i := 1) rfl
        go_upto_region 14 with (first | (refine wpList_boxNew (vs := [.int .i64 0, .bool false, .int .i64 0, .slice none 0 0, .slice none 0 0, .bool false, .int .i64 0]) (by kernel_rfl) rfl rfl ?_; intro wa hba hBa) | (refine wpList_boxStore (us := [.int .i64 y.owner, .bool y.whole, .int .i64 y.span.table, .slice yA y.span.lo.length yB, .slice yC y.span.hi.length yD, .bool y.span.isOpen, .int .i64 y.mode]) (by kernel_rfl) rfl rfl rfl rfl rfl rfl hBa rfl ?_; intro wy hgw By) | fail)
        try go_simp
        have hbw := hba.grown hgw hba.size fun k hk => by injection hk with hk; omega
        replace Bl := Bl.below hbw Bl.lt
        replace Bx := Bx.below hbw Bx.lt
        replace rx := rx.below hbw
        replace ry := ry.below hbw
        replace q := q.trans (hbw.mono q.size)
        clear hbw hgw hba hBa
        clear b0 b1 d0 g0 g1 g2 g3 g4 g5 g6
        have x0 := Bx.cell (i := 0) rfl
        have x1 := Bx.cell (i := 1) rfl
        have x2 := Bx.cell (i := 2) rfl
        have x3 := Bx.cell (i := 3) rfl
        have x4 := Bx.cell (i := 4) rfl
        have x5 := Bx.cell (i := 5) rfl
        have x6 := Bx.cell (i := 6) rfl
        have y0 := By.cell (i := 0) rfl
        have y1 := By.cell (i := 1) rfl
        have y2 := By.cell (i := 2) rfl
        have y3 := By.cell (i := 3) rfl
        have y4 := By.cell (i := 4) rfl
        have y5 := By.cell (i := 5) rfl
        have y6 := By.cell (i := 6) rfl
        have hcl := rClash_any _ rx ry
        go_wp2_with fail
        refine hcl.mono ?_
        rintro e wc2 ⟨rfl, hb⟩
        clear hcl x0 x1 x2 x3 x4 x5 x6 y0 y1 y2 y3 y4 y5 y6
        replace Bl := Bl.below hb Bl.lt
        replace Bx := Bx.below hb Bx.lt
        replace rx := rx.below hb
        replace ry := ry.below hb
        replace By := By.below hb By.lt
        replace q := q.trans (hb.mono q.size)
        clear hb
        have hpw := pw_at (Q := Q) hkH hlt hlt2
        rw [← ex.out, ← ey.out] at hpw
        replace hpw := Lib.hid hpw
        have hsn := Lib.hid (take_all (P := fun y => clashL x y = false ∧ sameL x y = false) hkH hall.out)
        clear hall
        have x0 := Bx.cell (i := 0) rfl
        have x1 := Bx.cell (i := 1) rfl
        have x2 := Bx.cell (i := 2) rfl
        have x3 := Bx.cell (i := 3) rfl
        have x4 := Bx.cell (i := 4) rfl
        have x5 := Bx.cell (i := 5) rfl
        have x6 := Bx.cell (i := 6) rfl
        have y0 := By.cell (i := 0) rfl
        have y1 := By.cell (i := 1) rfl
        have y2 := By.cell (i := 2) rfl
        have y3 := By.cell (i := 3) rfl
        have y4 := By.cell (i := 4) rfl
        have y5 := By.cell (i := 5) rfl
        have y6 := By.cell (i := 6) rfl
        cases hcl : clashL x y with
        | true =>
          have HK := Lib.hid (show decide (okLk H Q) = false from decide_eq_false fun h => by have := (hpw.out h).1; rw [hcl] at this; cases this)
          clear hcl
          go_wp2_with fail
          go_ret
          exact ⟨by rw [HK.out]; rfl, q⟩
        | false =>
          replace hcl := Lib.hid hcl
          rcases Bool.eq_false_or_eq_true x.whole with hxw | hxw
          · rw [hxw] at x1
            replace hxw := Lib.hid hxw
            rcases Bool.eq_false_or_eq_true y.whole with hyw | hyw
            · rw [hyw] at y1
              replace hyw := Lib.hid hyw
              by_cases ho : x.owner = y.owner
              · by_cases ht : x.span.table = y.span.table
                · have hs := Lib.hid (show sameL x y = true from same_iff.2 ⟨ho.symm, hxw.out, hyw.out, ht⟩)
                  have e1 : (x.owner == y.owner) = true := beq_iff_eq.2 ho
                  have e2 : (x.span.table == y.span.table) = true := beq_iff_eq.2 ht
                  have HK := Lib.hid (show decide (okLk H Q) = false from decide_eq_false fun h => by have := (hpw.out h).2; rw [hs.out] at this; cases this)
                  clear ho ht
                  go_wp2_with fail
                  go_ret
                  exact ⟨by rw [HK.out]; rfl, q⟩
                · have hs := Lib.hid (show sameL x y = false by unfold sameL; simp [ht])
                  have e1 : (x.owner == y.owner) = true := beq_iff_eq.2 ho
                  have e2 : (x.span.table == y.span.table) = false := beq_eq_false_iff_ne.2 ht
                  clear ho ht
                  have hall2 := Lib.hid (hsn.out (by rw [← ey.out]; exact ⟨hcl.out, hs.out⟩))
                  clear hsn hpw
                  go_wp2_with fail
                  go_roundw
                  case rel => exact ⟨k + 1, by go_num, by omega, hall2.out, Bl, Bx, rx, q⟩
                  case measure => simp [intOf]; omega
              · have hs := Lib.hid (show sameL x y = false by unfold sameL; simp [Ne.symm ho])
                have e1 : (x.owner == y.owner) = false := beq_eq_false_iff_ne.2 ho
                clear ho
                have hall2 := Lib.hid (hsn.out (by rw [← ey.out]; exact ⟨hcl.out, hs.out⟩))
                clear hsn hpw
                go_wp2_with fail
                go_roundw
                case rel => exact ⟨k + 1, by go_num, by omega, hall2.out, Bl, Bx, rx, q⟩
                case measure => simp [intOf]; omega
            · have hs := Lib.hid (show sameL x y = false by unfold sameL; rw [hyw]; simp)
              rw [hyw] at y1
              clear hyw
              have hall2 := Lib.hid (hsn.out (by rw [← ey.out]; exact ⟨hcl.out, hs.out⟩))
              clear hsn hpw
              go_wp2_with fail
              go_roundw
              case rel => exact ⟨k + 1, by go_num, by omega, hall2.out, Bl, Bx, rx, q⟩
              case measure => simp [intOf]; omega
          · have hs := Lib.hid (show sameL x y = false by unfold sameL; rw [hxw]; simp)
            rw [hxw] at x1
            clear hxw
            have hall2 := Lib.hid (hsn.out (by rw [← ey.out]; exact ⟨hcl.out, hs.out⟩))
            clear hsn hpw
            go_wp2_with fail
            go_roundw
            case rel => exact ⟨k + 1, by go_num, by omega, hall2.out, Bl, Bx, rx, q⟩
            case measure => simp [intOf]; omega
      · obtain rfl : k = i := by omega
        have d0 : decide ((k : Int) < (k : Int)) = false := decide_eq_false (by omega)
        have hf1 := Lib.hid (take_all (P := fun y => fine y = true) hlt hf0.out (by rw [← ex.out]; exact hfx.out))
        have ho1 := Lib.hid (okH_take2 hlt ho0.out (by rw [← ex.out]; exact hall.out))
        clear hf0 ho0 hall
        go_wp2_with fail
        go_roundw
        case rel => exact ⟨k + 1, by go_num, by omega, hf1.out, ho1.out, Bl, q⟩
        case measure => simp [intOf]; omega
  · obtain rfl : i = H.length := by omega
    rw [List.take_length] at hf0 ho0
    have d0 : decide ((H.length : Int) < (H.length : Int)) = false := decide_eq_false (by omega)
    have b0 := Bl.cell (i := 0) rfl
    have b1 := Bl.cell (i := 1) rfl
    go_upto_region 18 with (fail)
    clear d0 b0 b1
    go_loopw [9] (fun iv wr => ∃ (i : Nat), iv = .int .i64 (i : Int) ∧ i ≤ Q.length ∧ (∀ y ∈ Q.take i, fine y = true) ∧ nodup (Q.take i) ∧ BoxN wr w.heap.size 24 [.slice aH H.length cH, .slice aQ Q.length cQ] ∧ Below w.heap.size w wr) (fun iv _ => Q.length - (intOf iv).toNat)
    case atStart => exact ⟨0, rfl, Nat.zero_le _, by simp, by simp [nodup], Bl, q⟩
    case round =>
    clear Bl q
    obtain ⟨i, rfl, hil, hg0, hn0, Bl, q⟩ := hrel
    replace hg0 := Lib.hid hg0
    replace hn0 := Lib.hid hn0
    rcases Nat.lt_or_ge i Q.length with hlt | hge
    · obtain ⟨b, off, xA, xB, xC, xD, eL, _, c0, c1, c2, c3, c4, c5, c6, k1, k2, k3⟩ := (hQ.below q).lk i hlt
      obtain ⟨x, ex⟩ : ∃ y, y = Q[i] := ⟨_, rfl⟩
      rw [← ex] at c0 c1 c2 c3 c4 c5 c6 k1 k2 k3
      replace ex := Lib.hid ex
      have rx : RdLk (fun _ => True) wr (.agg #[.int .i64 x.owner, .bool x.whole, .int .i64 x.span.table, .slice xA x.span.lo.length xB, .slice xC x.span.hi.length xD, .bool x.span.isOpen, .int .i64 x.mode]) x := ⟨_, _, _, _, rfl, k1.weak fun _ _ => trivial, k2.weak fun _ _ => trivial, k3⟩
      clear k1 k2 k3
      subst eL
      have d0 : decide ((i : Int) < (Q.length : Int)) = true := decide_eq_true (by omega)
      have b0 := Bl.cell (i := 0) rfl
      have b1 := Bl.cell (i := 1) rfl
      have hcl := rMay_any _ rx
      go_wp2_with fail
      refine hcl.mono ?_
      rintro e wc ⟨rfl, hb⟩
      clear hcl b0 b1 d0 c0 c1 c2 c3 c4 c5 c6
      replace Bl := Bl.below hb Bl.lt
      replace rx := rx.below hb
      replace q := q.trans (hb.mono q.size)
      clear hb
      cases hfx : fine x with
      | false =>
        have HK := Lib.hid (show decide (okLk H Q) = false from decide_eq_false fun h => by have := h.2.2.1 _ (List.getElem_mem hlt); rw [← ex.out, hfx] at this; cases this)
        clear hfx
        go_wp2_with fail
        go_ret
        exact ⟨by rw [HK.out]; rfl, q⟩
      | true =>
        replace hfx := Lib.hid hfx
        go_upto_region 24 with (fail)
        go_loopw [11] (fun kv wr => ∃ (k : Nat), kv = .int .i64 (k : Int) ∧ k ≤ i ∧ (∀ y ∈ Q.take k, y.owner ≠ x.owner) ∧ BoxN wr w.heap.size 24 [.slice aH H.length cH, .slice (some ⟨b, off, none⟩) Q.length cQ] ∧ Below w.heap.size w wr) (fun iv _ => i - (intOf iv).toNat)
        case atStart => exact ⟨0, rfl, Nat.zero_le _, by simp, Bl, q⟩
        case round =>
        clear Bl q rx
        obtain ⟨k, rfl, hki, hall, Bl, q⟩ := hrel
        replace hall := Lib.hid hall
        rcases Nat.lt_or_ge k i with hlt2 | hge2
        · have hkQ : k < Q.length := by omega
          obtain ⟨b2, o2, yA, yB, yC, yD, eL, _, g0, g1, g2, g3, g4, g5, g6, k1, k2, k3⟩ := (hQ.below q).lk k hkQ
          obtain ⟨y, ey⟩ : ∃ y, y = Q[k] := ⟨_, rfl⟩
          rw [← ey] at g0 g1 g2 g3 g4 g5 g6 k1 k2 k3
          replace ey := Lib.hid ey
          have ry : RdLk (fun _ => True) wr (.agg #[.int .i64 y.owner, .bool y.whole, .int .i64 y.span.table, .slice yA y.span.lo.length yB, .slice yC y.span.hi.length yD, .bool y.span.isOpen, .int .i64 y.mode]) y := ⟨_, _, _, _, rfl, k1.weak fun _ _ => trivial, k2.weak fun _ _ => trivial, k3⟩
          clear k1 k2 k3
          injection eL with eL
          injection eL with f1 f2 _
          subst f1 f2
          obtain ⟨b3, o3, _, _, _, _, eL3, _, c0, _⟩ := (hQ.below q).lk i hlt
          injection eL3 with eL3
          injection eL3 with f1 f2 _
          subst f1 f2
          rw [← ex.out] at c0
          have d0 : decide ((k : Int) < (i : Int)) = true := decide_eq_true (by omega)
          have b0 := Bl.cell (i := 0) rfl
          have b1 := Bl.cell (i := 1) rfl
          clear ry g1 g2 g3 g4 g5 g6
          have hpo := Lib.hid (show okLk H Q → y.owner ≠ x.owner from fun h => by
              rw [ey.out, ex.out]; exact (h.2.2.2.2 i hlt).2 _ (List.mem_take_iff_getElem.2 ⟨k, by omega, rfl⟩))
          have hsn := Lib.hid (take_all (P := fun y => y.owner ≠ x.owner) hkQ hall.out)
          clear hall
          obtain ⟨yo, eyo⟩ : ∃ z, z = y.owner := ⟨_, rfl⟩
          obtain ⟨xo, exo⟩ : ∃ z, z = x.owner := ⟨_, rfl⟩
          rw [← eyo] at g0 hpo
          rw [← exo] at c0 hpo hsn
          replace eyo := Lib.hid eyo
          replace exo := Lib.hid exo
          by_cases ho : yo = xo
          · have e1 : (yo == xo) = true := beq_iff_eq.2 ho
            have HK := Lib.hid (show decide (okLk H Q) = false from decide_eq_false fun h => hpo.out h ho)
            clear ho hpo hsn
            go_upto_region 26 with (fail)
            go_quiet (fail)
            go_wp2_with fail
            go_ret
            exact ⟨by rw [HK.out]; rfl, Below.drewN q _⟩
          · have e1 : (yo == xo) = false := beq_eq_false_iff_ne.2 ho
            have hall2 := Lib.hid (hsn.out (by rw [← ey.out, ← eyo.out]; exact ho))
            clear ho hpo hsn
            go_upto_region 26 with (fail)
            go_quiet (fail)
            go_wp2_with fail
            go_roundw
            case rel => exact ⟨k + 1, by go_num, by omega, by rw [← exo.out]; exact hall2.out, Bl, Below.drewN q _⟩
            case measure => simp [intOf]; omega
        · obtain rfl : k = i := by omega
          have d0 : decide ((k : Int) < (k : Int)) = false := decide_eq_false (by omega)
          have hf1 := Lib.hid (take_all (P := fun y => fine y = true) hlt hg0.out (by rw [← ex.out]; exact hfx.out))
          have ho1 := Lib.hid (nodup_take2 hlt hn0.out (by rw [← ex.out]; exact hall.out))
          clear hg0 hn0 hall
          go_wp2_with fail
          go_roundw
          case rel => exact ⟨k + 1, by go_num, by omega, hf1.out, ho1.out, Bl, q⟩
          case measure => simp [intOf]; omega
    · obtain rfl : i = Q.length := by omega
      rw [List.take_length] at hg0 hn0
      have d0 : decide ((Q.length : Int) < (Q.length : Int)) = false := decide_eq_false (by omega)
      have hHO : ∀ y ∈ H, 0 ≤ y.owner ∧ y.owner < 4 := fun y hy => (fine_iff.1 (hf0.out y hy)).1
      have hQO : ∀ y ∈ Q, 0 ≤ y.owner ∧ y.owner < 4 := fun y hy => (fine_iff.1 (hg0.out y hy)).1
      have b0 := Bl.cell (i := 0) rfl
      have b1 := Bl.cell (i := 1) rfl
      go_upto_region 29 with (fail)
      clear d0 b0 b1
      go_loopw [12] (fun iv wr => ∃ (i : Nat), iv = .int .i64 (i : Int) ∧ i ≤ Q.length ∧ (∀ j (h : j < Q.length), j < i → blk Q[j] H (Q.take j) = true) ∧ BoxN wr w.heap.size 24 [.slice aH H.length cH, .slice aQ Q.length cQ] ∧ Below w.heap.size w wr) (fun iv _ => Q.length - (intOf iv).toNat)
      case atStart => exact ⟨0, rfl, Nat.zero_le _, fun j _ h => by omega, Bl, q⟩
      case round =>
      clear Bl q
      obtain ⟨i, rfl, hil, hb0, Bl, q⟩ := hrel
      replace hb0 := Lib.hid hb0
      rcases Nat.lt_or_ge i Q.length with hlt | hge
      · have d0 : decide ((i : Int) < (Q.length : Int)) = true := decide_eq_true (by omega)
        have b0 := Bl.cell (i := 0) rfl
        have b1 := Bl.cell (i := 1) rfl
        have hcl := refBlk_any wr (v := .agg #[.slice aH H.length cH, .slice aQ Q.length cQ]) (S := S) ⟨aH, cH, aQ, cQ, rfl, hH.below q, hQ.below q⟩ hlt hHO hQO
        have hbm := Lib.hid (blk_mark (x := Q[i]) hHO (fun y hy => hQO y (List.mem_of_mem_take hy)) (Q := Q.take i))
        have hbo := Lib.hid (show okLk H Q → blk Q[i] H (Q.take i) = true from fun h => (h.2.2.2.2 i hlt).1)
        have hbn := Lib.hid (show blk Q[i] H (Q.take i) = true → ∀ j (h : j < Q.length), j < i + 1 → blk Q[j] H (Q.take j) = true from fun h j hj hji => by
            rcases Nat.lt_or_ge j i with h1 | h1
            · exact hb0.out j hj h1
            · obtain rfl : j = i := by omega
              exact h)
        obtain ⟨bb, ebb⟩ : ∃ b, b = blk Q[i] H (Q.take i) := ⟨_, rfl⟩
        rw [← ebb] at hbm hbo hbn
        clear ebb hb0
        obtain ⟨f, ef⟩ : ∃ f, f = mkF (blkO Q[i] (H ++ Q.take i)) := ⟨_, rfl⟩
        rw [← ef] at hcl hbm
        clear ef
        go_wp2_with fail
        refine hcl.mono ?_
        rintro e wc ⟨rfl, hb⟩
        clear hcl b0 b1 d0
        replace Bl := Bl.below hb Bl.lt
        replace q := q.trans (hb.mono q.size)
        clear hb
        have hcl := list_any wc f
        obtain ⟨ml, eml⟩ : ∃ l, l = markL f 4 := ⟨_, rfl⟩
        rw [← eml] at hbm hcl
        clear eml
        go_wp2_with fail
        refine hcl.mono ?_
        rintro e wd ⟨ad, cd, rfl, _, hb⟩
        clear hcl
        replace Bl := Bl.below hb Bl.lt
        replace q := q.trans (hb.mono q.size)
        clear hb
        cases bb with
        | false =>
          have hz : ml.length = 0 := hbm.out
          rw [hz]
          clear hbm hbn hz
          have HK := Lib.hid (show decide (okLk H Q) = false from decide_eq_false fun h => by have := hbo.out h; cases this)
          clear hbo
          go_wp2_with fail
          go_ret
          exact ⟨by rw [HK.out]; rfl, q⟩
        | true =>
          have hz : ((ml.length : Int) == 0) = false := beq_eq_false_iff_ne.2 (by have := hbm.out; omega)
          have hb1 := Lib.hid (hbn.out rfl)
          clear hbm hbo hbn
          go_wp2_with fail
          go_roundw
          case rel => exact ⟨i + 1, by go_num, by omega, hb1.out, Bl, q⟩
          case measure => simp [intOf]; omega
      · obtain rfl : i = Q.length := by omega
        have d0 : decide ((Q.length : Int) < (Q.length : Int)) = false := decide_eq_false (by omega)
        have HK := Lib.hid (show decide (okLk H Q) = true from decide_eq_true ⟨by omega, hf0.out, hg0.out, ho0.out, okQ_of hn0.out fun j hj => hb0.out j hj hj⟩)
        have b0 := Bl.cell (i := 0) rfl
        have b1 := Bl.cell (i := 1) rfl
        clear hf0 hg0 ho0 hn0 hb0 hHO hQO
        go_wp2_with fail
        go_ret
        exact ⟨by rw [HK.out]; rfl, q⟩
end Go.Proofs.YtpdnehgboafgpaaDoor
namespace Go.Proofs.YtpdnehgboafgpaaDoor
theorem compact_sup (l : List Int) : ∀ x ∈ l, x ∈ Lib.compact l := by
  intro x hx
  have ex : ∃ i, ∃ h : i < l.length, l[i] = x := List.mem_iff_getElem.1 hx
  have hf : ∃ i, ∃ h : i < l.length, l[i] = x ∧ ∀ j, j < i → ∀ h : j < l.length, l[j] ≠ x := by
    obtain ⟨i, hi, e⟩ := ex
    induction i using Nat.strongRecOn with
    | ind i ih =>
      by_cases h : ∃ j, ∃ hj : j < l.length, j < i ∧ l[j] = x
      · obtain ⟨j, hj, hji, e2⟩ := h
        exact ih j hji hj e2
      · exact ⟨i, hi, e, fun j hji hj e2 => h ⟨j, hj, hji, e2⟩⟩
  obtain ⟨i, hi, e, hn⟩ := hf
  unfold Lib.compact Lib.compactUpTo
  refine List.mem_map.2 ⟨i, List.mem_filter.2 ⟨List.mem_range.2 hi, ?_⟩, by simp [getElem!_pos, hi, e]⟩
  unfold Lib.keeps
  rcases i with _ | i
  · simp
  · have h2 := hn i (by omega) (by omega)
    simp [getElem!_pos, hi, show i < l.length by omega, e]
    first | exact fun h => h2 h.symm | exact fun h => h2 h | exact h2
theorem compact_lt {l : List Int} (h : l.Pairwise (· ≤ ·)) : (Lib.compact l).Pairwise (· < ·) := by
  unfold Lib.compact Lib.compactUpTo
  rw [List.pairwise_map]
  rw [List.pairwise_iff_getElem] at h
  have hr : ((List.range l.length).filter (Lib.keeps l.toArray)).Pairwise (· < ·) := List.Pairwise.filter _ List.pairwise_lt_range
  refine hr.imp_of_mem ?_
  intro i j hi hj hij
  obtain ⟨h1, _⟩ := List.mem_filter.1 hi
  obtain ⟨h2, h3⟩ := List.mem_filter.1 hj
  rw [List.mem_range] at h1 h2
  rcases j with _ | j
  · omega
  · unfold Lib.keeps at h3
    simp [getElem!_pos, h2, show j < l.length by omega] at h3
    simp only [List.getElem!_toArray, getElem!_pos, h1, h2]
    have a1 : l[i] ≤ l[j] := by
      rcases Nat.lt_or_ge i j with h4 | h4
      · exact h i j h1 (by omega) h4
      · obtain rfl : i = j := by omega
        exact Int.le_refl _
    have a2 := h j (j + 1) (by omega) h2 (by omega)
    first | omega | (simp [getElem!_pos, h1, h2]; omega)
theorem lt_ext : ∀ {l m : List Int}, l.Pairwise (· < ·) → m.Pairwise (· < ·) → (∀ x, x ∈ l ↔ x ∈ m) → l = m
  | [], [], _, _, _ => rfl
  | [], y :: m, _, _, h => by have := (h y).2 List.mem_cons_self; simp at this
  | x :: l, [], _, _, h => by have := (h x).1 List.mem_cons_self; simp at this
  | x :: l, y :: m, h1, h2, h => by
    rw [List.pairwise_cons] at h1 h2
    have e : x = y := by
      rcases List.mem_cons.1 ((h x).1 List.mem_cons_self) with e | e
      · exact e
      · rcases List.mem_cons.1 ((h y).2 List.mem_cons_self) with e2 | e2
        · exact e2.symm
        · have := h1.1 y e2; have := h2.1 x e; omega
    subst e
    rw [lt_ext h1.2 h2.2 fun z => ?_]
    constructor
    · intro hz
      rcases List.mem_cons.1 ((h z).1 (List.mem_cons_of_mem _ hz)) with e | e
      · have := h1.1 z hz; omega
      · exact e
    · intro hz
      rcases List.mem_cons.1 ((h z).2 (List.mem_cons_of_mem _ hz)) with e | e
      · have := h2.1 z hz; omega
      · exact e
theorem sort_le (l : List Int) : (l.mergeSort fun x y => decide (x ≤ y)).Pairwise (· ≤ ·) := by
  have := List.pairwise_mergeSort (le := fun x y : Int => decide (x ≤ y)) (fun a b c h1 h2 => by simp at h1 h2 ⊢; omega) (fun a b => by simp; omega) l
  exact this.imp fun h => by simpa using h
theorem rise_mem {l : List Int} {x : Int} : x ∈ riseL l ↔ x ∈ l := by
  constructor
  · intro h
    unfold riseL at h
    have hp := List.mergeSort_perm l fun x y : Int => decide (x ≤ y)
    unfold Lib.compact Lib.compactUpTo at h
    obtain ⟨i, hi, rfl⟩ := List.mem_map.1 h
    have hi' := List.mem_range.1 (List.mem_filter.1 hi).1
    refine hp.subset ?_
    simp only [List.getElem!_toArray, getElem!_pos, hi']
    exact List.getElem_mem hi'
  · intro h
    exact compact_sup _ x ((List.mergeSort_perm l _).symm.subset h)
theorem mark_mem {f : Nat → Bool} {n : Nat} {x : Int} : x ∈ markL f n ↔ ∃ k : Nat, x = (k : Int) ∧ k < n ∧ f k = true := by
  unfold markL
  simp only [List.mem_map, List.mem_filter, List.mem_range]
  constructor
  · rintro ⟨k, h, rfl⟩; exact ⟨k, rfl, h⟩
  · rintro ⟨k, rfl, h⟩; exact ⟨k, h, rfl⟩
theorem mark_lt (f : Nat → Bool) (n : Nat) : (markL f n).Pairwise (· < ·) := by
  unfold markL
  rw [List.pairwise_map]
  exact (List.Pairwise.filter f List.pairwise_lt_range).imp fun h => by omega
theorem rise_mark {l : List Int} (h : ∀ x ∈ l, 0 ≤ x ∧ x < 4) : riseL l = markL (mkF l) 4 := by
  refine lt_ext (compact_lt (sort_le l)) (mark_lt _ _) fun x => ?_
  rw [rise_mem, mark_mem]
  constructor
  · intro hx
    have := h x hx
    exact ⟨x.toNat, by omega, by omega, by unfold mkF; rw [show ((x.toNat : Nat) : Int) = x by omega]; simpa using hx⟩
  · rintro ⟨k, rfl, _, hk⟩
    simpa [mkF] using hk
end Go.Proofs.YtpdnehgboafgpaaDoor
namespace Go.Proofs.YtpdnehgboafgpaaDoor
def blkG (H : List Lk) : List Lk → List Lk → Int → List Int
  | _, [], _ => []
  | p, y :: l, o => if y.owner = o then riseL (blkO y (H ++ p)) else blkG H (p ++ [y]) l o
def bloL (H Q : List Lk) (o : Int) : List Int := if okLk H Q then blkG H [] Q o else []
theorem blkG_at {H : List Lk} {o : Int} : ∀ {Q p : List Lk} {i : Nat} (h : i < Q.length), Q[i].owner = o → (∀ y ∈ Q.take i, y.owner ≠ o) → blkG H p Q o = riseL (blkO Q[i] (H ++ (p ++ Q.take i)))
  | y :: l, p, 0, _, h1, _ => by
    have h2 : y.owner = o := h1
    unfold blkG
    rw [if_pos h2]; simp
  | y :: l, p, i + 1, h, h1, h2 => by
    have h3 : y.owner ≠ o := h2 y (by simp)
    unfold blkG
    rw [if_neg h3, blkG_at (i := i) (by simpa using h) (by simpa using h1) (fun z hz => h2 z (by simp [hz]))]
    simp
theorem blkG_no {H : List Lk} {o : Int} : ∀ {Q p : List Lk}, (∀ y ∈ Q, y.owner ≠ o) → blkG H p Q o = []
  | [], _, _ => rfl
  | y :: l, p, h => by
    unfold blkG
    rw [if_neg (h y (by simp)), blkG_no fun z hz => h z (by simp [hz])]
theorem blo_of {H Q : List Lk} {o : Int} {l : List Int} (h : (okLk H Q ∧ ∃ i, ∃ h : i < Q.length, Q[i].owner = o ∧ (∀ y ∈ Q.take i, y.owner ≠ o) ∧ l = riseL (blkO Q[i] (H ++ Q.take i))) ∨ (decide (okLk H Q) && waitsL Q o) = false ∧ l = []) : l = bloL H Q o := by
  unfold bloL
  rcases h with ⟨ok, i, hi, h1, h2, rfl⟩ | ⟨h1, rfl⟩
  · rw [if_pos ok, blkG_at hi h1 h2, List.nil_append]
  · split
    · rename_i ok
      rw [decide_eq_true ok, Bool.true_and] at h1
      rw [blkG_no (waits_no.1 h1)]
    · rfl
end Go.Proofs.YtpdnehgboafgpaaDoor
namespace Go.Proofs.YtpdnehgboafgpaaDoor
open Go.RowKit Go.Shelf
theorem lsS2 : SgP Tryd.prog 24 2 := ⟨⟨_, Tryd.underlying24⟩, by kernel_rfl⟩
theorem placeP.uniq {Q : List Lk} {o p p' : Int} (h : placeP Q o p) (h1 : placeP Q o p') : p = p' := by
  rcases h with ⟨i, hi, rfl, e1, n1⟩ | ⟨rfl, hw⟩ <;> rcases h1 with ⟨j, hj, rfl, e2, n2⟩ | ⟨rfl, hw2⟩
  · rcases Nat.lt_trichotomy i j with h | h | h
    · exact absurd e1 (n2 Q[i] (List.mem_take_iff_getElem.2 ⟨i, by omega, rfl⟩))
    · rw [h]
    · exact absurd e2 (n1 Q[j] (List.mem_take_iff_getElem.2 ⟨j, by omega, rfl⟩))
  · exact absurd e1 (waits_no.1 hw2 _ (List.getElem_mem hi))
  · exact absurd e2 (waits_no.1 hw _ (List.getElem_mem hj))
  · rfl
theorem blkO_own {x : Lk} {H Q : List Lk} (hH : ∀ y ∈ H, 0 ≤ y.owner ∧ y.owner < 4) (hQ : ∀ y ∈ Q, 0 ≤ y.owner ∧ y.owner < 4) : ∀ z ∈ blkO x (H ++ Q), 0 ≤ z ∧ z < 4 := by
  intro z hz
  unfold blkO at hz
  obtain ⟨y, hy, rfl⟩ := List.mem_map.1 hz
  rcases List.mem_append.1 (List.mem_filter.1 hy).1 with h | h
  · exact hH y h
  · exact hQ y h
def sgVo (B : Nat) (l : List Int) : SG := ⟨fun w v => ∃ a c, v = .slice a l.length c ∧ OwnL Elt.int 3 B B w (.slice a l.length c) l, fun _ _ _ ⟨a, c, e, h⟩ hb => ⟨a, c, e, h.below hb⟩⟩
set_option maxRecDepth 100000 in
set_option maxHeartbeats 4000000 in
theorem refBlockers_any (w : World) {S : Nat → Prop} {v : Value} {H Q : List Lk} {o : Int} (h : RdLs S w v H Q) (hnH : H.length ≤ 1000000) (hnQ : Q.length ≤ 1000000) :
    Calls Tryd.prog 13 #[v, .int .i64 o] w fun e w' => ∃ a c, e = .returned (.slice a (bloL H Q o).length c) ∧ OwnL Elt.int 3 w.heap.size w.heap.size w' (.slice a (bloL H Q o).length c) (bloL H Q o) ∧ Below w.heap.size w w' := by
  have hfull := h
  obtain ⟨aH, cH, aQ, cQ, rfl, hH, hQ⟩ := h
  have hl2 : Q.length ≤ 9223372036854775807 := by omega
  clear hH hQ
  obtain ⟨W, hW, q, Bl, hsz⟩ := spBox w 24 [.slice aH H.length cH, .slice aQ Q.length cQ]
  have hsz1 : w.heap.size ≤ W.heap.size := q.size
  clear hsz
  go_enter Tryd.func13, Tryd.ntmps13
  go_upto_region 1 with (fail)
  rw [show w.alloc (.cells #[.slice aH H.length cH, .slice aQ Q.length cQ] 24) = W from hW.symm]
  clear hW
  have b0 := Bl.cell (i := 0) rfl
  have b1 := Bl.cell (i := 1) rfl
  have hcl := refChk_any W (hfull.below q) hnH hnQ
  go_wp2_with fail
  refine hcl.mono ?_
  rintro e w1 ⟨rfl, hb⟩
  clear hcl b0 b1
  replace Bl := Bl.below hb Bl.lt
  replace q := q.trans (hb.mono q.size)
  clear hb
  by_cases hok : okLk H Q
  · rw [decide_eq_true hok]
    have b0 := Bl.cell (i := 0) rfl
    have b1 := Bl.cell (i := 1) rfl
    have hcl := place_any w1 (hfull.below q) (o := o)
    go_wp2_with fail
    refine hcl.mono ?_
    rintro e w2 ⟨p, rfl, hp, hb⟩
    clear hcl b0 b1
    replace Bl := Bl.below hb Bl.lt
    replace q := q.trans (hb.mono q.size)
    clear hb
    rcases id hp with ⟨i, hi, rfl, hio, hbe⟩ | ⟨rfl, hw⟩
    · have d1 : decide ((i : Int) < 0) = false := decide_eq_false (by omega)
      have hHO : ∀ y ∈ H, 0 ≤ y.owner ∧ y.owner < 4 := fun y hy => (fine_iff.1 (hok.2.1 y hy)).1
      have hQO : ∀ y ∈ Q, 0 ≤ y.owner ∧ y.owner < 4 := fun y hy => (fine_iff.1 (hok.2.2.1 y hy)).1
      have hbo : bloL H Q o = markL (mkF (blkO Q[i] (H ++ Q.take i))) 4 := (blo_of (.inl ⟨hok, i, hi, hio, hbe, rfl⟩)).symm.trans (rise_mark fun z hz => blkO_own hHO (fun y hy => hQO y (List.mem_of_mem_take hy)) z hz)
      have hrb := fun (V : World) (hV : Below w2.heap.size w2 V) => refBlk_any V (S := S) (v := .agg #[.slice aH H.length cH, .slice aQ Q.length cQ]) ((hfull.below q).below hV) hi hHO hQO
      obtain ⟨f, ef⟩ : ∃ f, f = mkF (blkO Q[i] (H ++ Q.take i)) := ⟨_, rfl⟩
      rw [← ef] at hrb hbo
      clear ef hio hbe hHO hQO
      replace hbo := Lib.hid hbo
      replace hok := Lib.hid hok
      have b0 := Bl.cell (i := 0) rfl
      have b1 := Bl.cell (i := 1) rfl
      go_upto_region 4 with (fail)
      clear d1 b0 b1
      have eP : ∀ args w, (callFunc 34 args).run Tryd.prog w = .ok (.enter 34 args) w := enters_of Tryd.func34 (by kernel_rfl) rfl
      have eB : ∀ args w, (callFunc 36 args).run Tryd.prog w = .ok (.enter 36 args) w := enters_of Tryd.func36 (by kernel_rfl) rfl
      have eI : ∀ args w, (callFunc 35 args).run Tryd.prog w = .ok (.enter 35 args) w := enters_of Tryd.func35 (by kernel_rfl) rfl
      refine wp_region_gsa (by kernel_rfl) (by kernel_rfl) [sgEq (.agg #[.slice aH H.length cH, .slice aQ Q.length cQ]), sgEq (.agg #[.slice aH H.length cH, .slice aQ Q.length cQ]), sgEq (.int .i64 o), sgEq (.int .i64 (i : Nat)), sgEq (.agg #[.bool (f 0), .bool (f 1), .bool (f 2), .bool (f 3)]), sgVo w.heap.size (markL f 4), sgVo w.heap.size (markL f 4)]
        ⟨?o0, ?o1, ?o2, ?o3, ?o4, ?o5, ?o6, trivial⟩ ?fin
      case o0 =>
        refine GdOp.plain rfl (fun A vs w' hF hT hb hd => ?_)
        have e1 : A.eval (.tmp 2) = .pointer (some ⟨w.heap.size, 0, none⟩) := hF 2 rfl
        exact wp_loadU (us := [.slice aH H.length cH, .slice aQ Q.length cQ]) lsS2 rfl e1 (fun j u hj => by rw [Nat.zero_add]; exact (Bl.below hb Bl.lt).cell hj) ⟨_, rfl, rfl, Below.refl _ _⟩
      case o1 =>
        refine GdOp.plain rfl (fun A vs w' hF hT hb hd => ?_)
        have e1 : A.eval (.tmp 2) = .pointer (some ⟨w.heap.size, 0, none⟩) := hF 2 rfl
        exact wp_loadU (us := [.slice aH H.length cH, .slice aQ Q.length cQ]) lsS2 rfl e1 (fun j u hj => by rw [Nat.zero_add]; exact (Bl.below hb Bl.lt).cell hj) ⟨_, rfl, rfl, Below.refl _ _⟩
      case o2 =>
        refine GdOp.plain rfl (fun A vs w' hF hT hb hd => ?_)
        have e1 : A.eval (.tmp 1) = .int .i64 o := hF 1 rfl
        exact BigFrame.wp_move _ rfl ⟨_, rfl, e1, Below.refl _ _⟩
      case o3 =>
        refine GdOp.plain rfl (fun A vs w' hF hT hb hd => ?_)
        have e1 : A.eval (.tmp 17) = .agg #[.slice aH H.length cH, .slice aQ Q.length cQ] := (hT 17 1 (by simp) rfl).trans (hd ⟨1, .data⟩ (by simp) rfl)
        have e2 : A.eval (.tmp 18) = .int .i64 o := (hT 18 2 (by simp) rfl).trans (hd ⟨2, .data⟩ (by simp) rfl)
        refine wp_callFn rfl eP (args := #[.agg #[.slice aH H.length cH, .slice aQ Q.length cQ], .int .i64 o]) (by simp only [List.map_toArray, List.map_cons, List.map_nil, e1, e2]) ((place_any w' ((hfull.below q).below hb)).mono ?_)
        rintro e w3 ⟨p2, rfl, hp2, hb2⟩
        obtain rfl := hp2.uniq hp
        exact ⟨_, rfl, _, rfl, rfl, hb2⟩
      case o4 =>
        refine GdOp.plain rfl (fun A vs w' hF hT hb hd => ?_)
        have e1 : A.eval (.tmp 16) = .agg #[.slice aH H.length cH, .slice aQ Q.length cQ] := (hT 16 0 (by simp) rfl).trans (hd ⟨0, .data⟩ (by simp) rfl)
        have e2 : A.eval (.tmp 19) = .int .i64 (i : Nat) := (hT 19 3 (by simp) rfl).trans (hd ⟨3, .data⟩ (by simp) rfl)
        refine wp_callFn rfl eB (args := #[.agg #[.slice aH H.length cH, .slice aQ Q.length cQ], .int .i64 (i : Nat)]) (by simp only [List.map_toArray, List.map_cons, List.map_nil, e1, e2]) ((hrb w' hb).mono ?_)
        rintro e w3 ⟨rfl, hb2⟩
        exact ⟨_, rfl, _, rfl, rfl, hb2⟩
      case o5 =>
        refine GdOp.plain rfl (fun A vs w' hF hT hb hd => ?_)
        have e1 : A.eval (.tmp 20) = .agg #[.bool (f 0), .bool (f 1), .bool (f 2), .bool (f 3)] := (hT 20 4 (by simp) rfl).trans (hd ⟨4, .data⟩ (by simp) rfl)
        refine wp_callFn rfl eI (args := #[.agg #[.bool (f 0), .bool (f 1), .bool (f 2), .bool (f 3)]]) (by simp only [List.map_toArray, List.map_cons, List.map_nil, e1]) ((list_any w' f).mono ?_)
        rintro e w3 ⟨a9, c9, rfl, ho9, hb2⟩
        exact ⟨_, rfl, _, rfl, ⟨a9, c9, rfl, ho9.to (Nat.le_trans q.size hb.size) (Nat.le_trans q.size hb.size)⟩, hb2⟩
      case o6 =>
        refine GdOp.plain rfl (fun A vs w' hF hT hb hd => ?_)
        obtain ⟨a9, c9, q9, ho9⟩ := hd ⟨5, .data⟩ (by simp) rfl
        exact BigFrame.wp_assign _ rfl ⟨_, rfl, ⟨a9, c9, (hT 21 5 (by simp) rfl).trans q9, ho9⟩, Below.refl _ _⟩
      case fin =>
      intro A9 vs9 W9 hA9 hb9 hG9
      obtain ⟨a9, c9, q9, ho9⟩ := hG9 6 (by decide)
      have e4 : A9.eval (.tmp 4) = .slice a9 (markL f 4).length c9 := (hA9.2.2.2 4 6 (by simp) rfl).trans q9
      have hd9 : A9.defers = [] := hA9.1
      clear hG9 hA9
      go_wp2
      refine bodyPost_ret (v := .slice a9 (markL f 4).length c9) ?_ hd9 ⟨a9, c9, by rw [hbo.out], by rw [hbo.out]; exact ho9, q.trans (hb9.mono q.size)⟩
      rw [← e4]
      exact results_tmp rfl _ _ _
    · have d1 : decide ((-1 : Int) < 0) = true := by decide
      have hbo : bloL H Q o = [] := (blo_of (.inr ⟨by rw [hw]; simp, rfl⟩)).symm
      clear hp hw
      replace hbo := Lib.hid hbo
      replace hok := Lib.hid hok
      go_wp2_with fail
      go_ret
      exact ⟨none, 0, by rw [hbo.out]; rfl, by rw [hbo.out]; exact OwnL.nil _ _ _ _ _, q⟩
  · rw [decide_eq_false hok]
    have hbo : bloL H Q o = [] := if_neg hok
    clear hok
    replace hbo := Lib.hid hbo
    go_wp2_with fail
    go_ret
    exact ⟨none, 0, by rw [hbo.out]; rfl, by rw [hbo.out]; exact OwnL.nil _ _ _ _ _, q⟩
set_option maxRecDepth 100000 in
set_option maxHeartbeats 4000000 in
theorem refWaits_any (w : World) {S : Nat → Prop} {v : Value} {H Q : List Lk} {o : Int} (h : RdLs S w v H Q) (hnH : H.length ≤ 1000000) (hnQ : Q.length ≤ 1000000) :
    Calls Tryd.prog 19 #[v, .int .i64 o] w fun e w' => e = .returned (.bool (decide (okLk H Q) && waitsL Q o)) ∧ Below w.heap.size w w' := by
  have hfull := h
  obtain ⟨aH, cH, aQ, cQ, rfl, hH, hQ⟩ := h
  have hl2 : Q.length ≤ 9223372036854775807 := by omega
  clear hH hQ
  obtain ⟨W, hW, q, Bl, hsz⟩ := spBox w 24 [.slice aH H.length cH, .slice aQ Q.length cQ]
  have hsz1 : w.heap.size ≤ W.heap.size := q.size
  clear hsz
  go_enter Tryd.func19, Tryd.ntmps19
  go_upto_region 1 with (fail)
  rw [show w.alloc (.cells #[.slice aH H.length cH, .slice aQ Q.length cQ] 24) = W from hW.symm]
  clear hW
  have b0 := Bl.cell (i := 0) rfl
  have b1 := Bl.cell (i := 1) rfl
  have hcl := refChk_any W (hfull.below q) hnH hnQ
  go_wp2_with fail
  refine hcl.mono ?_
  rintro e w1 ⟨rfl, hb⟩
  clear hcl b0 b1
  replace Bl := Bl.below hb Bl.lt
  replace q := q.trans (hb.mono q.size)
  clear hb
  by_cases hok : okLk H Q
  · have HK := Lib.hid (show (decide (okLk H Q) && waitsL Q o) = waitsL Q o by rw [decide_eq_true hok]; rfl)
    rw [decide_eq_true hok]
    clear hok
    have b0 := Bl.cell (i := 0) rfl
    have b1 := Bl.cell (i := 1) rfl
    have hcl := place_any w1 (hfull.below q) (o := o)
    go_wp2_with fail
    refine hcl.mono ?_
    rintro e w2 ⟨p, rfl, hp, hb⟩
    clear hcl b0 b1
    replace Bl := Bl.below hb Bl.lt
    replace q := q.trans (hb.mono q.size)
    clear hb
    have hpw := Lib.hid hp.waits
    clear hp
    by_cases h0 : 0 ≤ p
    · have d1 : decide (0 ≤ p) = true := decide_eq_true h0
      have hw := Lib.hid (hpw.out.symm.trans d1)
      clear h0 hpw
      go_wp2_with fail
      go_ret
      exact ⟨by rw [HK.out, hw.out]; rfl, q⟩
    · have d1 : decide (0 ≤ p) = false := decide_eq_false h0
      have hw := Lib.hid (hpw.out.symm.trans d1)
      clear h0 hpw
      go_wp2_with fail
      go_ret
      exact ⟨by rw [HK.out, hw.out]; rfl, q⟩
  · have HK := Lib.hid (show (decide (okLk H Q) && waitsL Q o) = false by rw [decide_eq_false hok]; rfl)
    rw [decide_eq_false hok]
    clear hok
    go_wp2_with fail
    go_ret
    exact ⟨by rw [HK.out]; rfl, q⟩
end Go.Proofs.YtpdnehgboafgpaaDoor
namespace Go.Proofs.YtpdnehgboafgpaaDoor
open Go.RowKit Go.Shelf
def i4 (s : Nat → Int) : List Value := [.int .i64 (s 0), .int .i64 (s 1), .int .i64 (s 2), .int .i64 (s 3)]
def sgVi (l : List Int) : SG := ⟨fun w v => ∃ a c, v = .slice a l.length c ∧ RdL Elt.int (fun _ => True) w (.slice a l.length c) l, fun _ _ _ ⟨a, c, e, h⟩ hb => ⟨a, c, e, h.below hb⟩⟩
end Go.Proofs.YtpdnehgboafgpaaDoor
namespace Go.Proofs.YtpdnehgboafgpaaDoor
open Go.RowKit Go.Shelf
set_option maxRecDepth 100000 in
set_option maxHeartbeats 32000000 in
theorem LockTells_w (w : World) (hT : TabAt w) {cs0 cs1 cs2 : Array Value} {o : Int} {d : List Lk × List Lk} {x y : Lk} (h0 : RdLs2 (· < w.heap.size) w (.agg cs0) d) (h1 : RdLk (· < w.heap.size) w (.agg cs1) x) (h2 : RdLk (· < w.heap.size) w (.agg cs2) y) (h3 : (Lit.int .i64 o).wf = true) :
    Calls Tryd.prog 3 #[.agg cs0, .agg cs1, .agg cs2, .int .i64 o] w fun e w' => e = .returned (.bool true) ∧ Below w.heap.size w w' := by
  obtain ⟨H, Q⟩ := d
  replace h0 : RdLs (· < w.heap.size) w (.agg cs0) H Q := h0
  have _ := h3
  have hx := h1
  obtain ⟨x1, x2, x3, x4, e, hl1, hl2, _⟩ := h1
  injection e with e
  subst e
  clear hl1 hl2
  have hy := h2
  obtain ⟨y1, y2, y3, y4, e, hl1, hl2, _⟩ := h2
  injection e with e
  subst e
  clear hl1 hl2
  have hd := h0
  obtain ⟨aH, cH, aQ, cQ, e, hH, hQ⟩ := h0
  injection e with e
  subst e
  clear hH hQ
  obtain ⟨W0, hW, q0, Bl, Bx, hsz0⟩ := boxes2 w 24 29 [.slice aH H.length cH, .slice aQ Q.length cQ] [.int .i64 x.owner, .bool x.whole, .int .i64 x.span.table, .slice x1 x.span.lo.length x2, .slice x3 x.span.hi.length x4, .bool x.span.isOpen, .int .i64 x.mode]
  obtain ⟨W1, hW1, q1, By, hsz1⟩ := spBox W0 29 [.int .i64 y.owner, .bool y.whole, .int .i64 y.span.table, .slice y1 y.span.lo.length y2, .slice y3 y.span.hi.length y4, .bool y.span.isOpen, .int .i64 y.mode]
  have q : Below w.heap.size w W1 := q0.trans (q1.mono q0.size)
  replace Bl := Bl.below q1 Bl.lt
  replace Bx := Bx.below q1 Bx.lt
  have e2 : W0.heap.size = w.heap.size + 1 + 1 := hsz0
  rw [e2] at By
  clear hsz1
  go_enter Tryd.func3, Tryd.ntmps3
  go_upto_region 1 with (fail)
  rw [show (w.alloc (.cells #[.slice aH H.length cH, .slice aQ Q.length cQ] 24)).alloc (.cells #[.int .i64 x.owner, .bool x.whole, .int .i64 x.span.table, .slice x1 x.span.lo.length x2, .slice x3 x.span.hi.length x4, .bool x.span.isOpen, .int .i64 x.mode] 29) = W0 from hW.symm]
  rw [show W0.alloc (.cells #[.int .i64 y.owner, .bool y.whole, .int .i64 y.span.table, .slice y1 y.span.lo.length y2, .slice y3 y.span.hi.length y4, .bool y.span.isOpen, .int .i64 y.mode] 29) = W1 from hW1.symm]
  clear hW hW1 q0 q1 e2 hsz0
  go_wp2_with fail
  refine (awake11_any W1 (hT.below q)).mono ?_
  rintro e w1 ⟨rfl, hb⟩
  replace Bl := Bl.below hb Bl.lt
  replace Bx := Bx.below hb Bx.lt
  replace By := By.below hb By.lt
  replace q := q.trans (hb.mono q.size)
  clear hb
  have b0 := Bl.cell (i := 0) rfl
  have b1 := Bl.cell (i := 1) rfl
  have hcl := fewK_any _ (RdLs.below hd q)
  go_wp2_with fail
  refine hcl.mono ?_
  rintro e wq1 ⟨rfl, hb⟩
  clear hcl b0 b1
  replace Bl := Bl.below hb Bl.lt
  replace Bx := Bx.below hb Bx.lt
  replace By := By.below hb By.lt
  replace q := q.trans (hb.mono q.size)
  clear hb
  by_cases hf : fewK H Q
  case neg =>
    rw [decide_eq_false hf]
    go_wp2_with fail
    go_ret
    exact ⟨rfl, q⟩
  rw [decide_eq_true hf]
  have c0 := Bx.cell (i := 0) rfl
  have c1 := Bx.cell (i := 1) rfl
  have c2 := Bx.cell (i := 2) rfl
  have c3 := Bx.cell (i := 3) rfl
  have c4 := Bx.cell (i := 4) rfl
  have c5 := Bx.cell (i := 5) rfl
  have c6 := Bx.cell (i := 6) rfl
  have hcl := shortL_any _ (hx.below q)
  go_wp2_with fail
  refine hcl.mono ?_
  rintro e wq2 ⟨rfl, hb⟩
  clear hcl c0 c1 c2 c3 c4 c5 c6
  replace Bl := Bl.below hb Bl.lt
  replace Bx := Bx.below hb Bx.lt
  replace By := By.below hb By.lt
  replace q := q.trans (hb.mono q.size)
  clear hb
  by_cases sx : shortS x.span
  case neg =>
    rw [decide_eq_false sx]
    go_wp2_with fail
    go_ret
    exact ⟨rfl, q⟩
  rw [decide_eq_true sx]
  have d0 := By.cell (i := 0) rfl
  have d1 := By.cell (i := 1) rfl
  have d2 := By.cell (i := 2) rfl
  have d3 := By.cell (i := 3) rfl
  have d4 := By.cell (i := 4) rfl
  have d5 := By.cell (i := 5) rfl
  have d6 := By.cell (i := 6) rfl
  have hcl := shortL_any _ (hy.below q)
  go_wp2_with fail
  refine hcl.mono ?_
  rintro e wq3 ⟨rfl, hb⟩
  clear hcl d0 d1 d2 d3 d4 d5 d6
  replace Bl := Bl.below hb Bl.lt
  replace Bx := Bx.below hb Bx.lt
  replace By := By.below hb By.lt
  replace q := q.trans (hb.mono q.size)
  clear hb
  by_cases sy : shortS y.span
  case neg =>
    rw [decide_eq_false sy]
    go_wp2_with fail
    go_ret
    exact ⟨rfl, q⟩
  rw [decide_eq_true sy]
  have hnH : H.length ≤ 60 := hf.1.1
  have hnQ : Q.length ≤ 60 := hf.2.1
  clear hf sx sy
  go_upto_region 4 with (fail)
  have eA : ∀ args w, (callFunc 12 args).run Tryd.prog w = .ok (.enter 12 args) w := enters_of Tryd.func12 (by kernel_rfl) rfl
  have eB : ∀ args w, (callFunc 13 args).run Tryd.prog w = .ok (.enter 13 args) w := enters_of Tryd.func13 (by kernel_rfl) rfl
  have eN : ∀ args w, (callFunc 11 args).run Tryd.prog w = .ok (.enter 11 args) w := enters_of Tryd.func11 (by kernel_rfl) rfl
  have eC : ∀ args w, (callFunc 14 args).run Tryd.prog w = .ok (.enter 14 args) w := enters_of Tryd.func14 (by kernel_rfl) rfl
  have eD : ∀ args w, (callFunc 15 args).run Tryd.prog w = .ok (.enter 15 args) w := enters_of Tryd.func15 (by kernel_rfl) rfl
  have eE : ∀ args w, (callFunc 16 args).run Tryd.prog w = .ok (.enter 16 args) w := enters_of Tryd.func16 (by kernel_rfl) rfl
  have eF : ∀ args w, (callFunc 17 args).run Tryd.prog w = .ok (.enter 17 args) w := enters_of Tryd.func17 (by kernel_rfl) rfl
  have eG : ∀ args w, (callFunc 18 args).run Tryd.prog w = .ok (.enter 18 args) w := enters_of Tryd.func18 (by kernel_rfl) rfl
  have eH : ∀ args w, (callFunc 19 args).run Tryd.prog w = .ok (.enter 19 args) w := enters_of Tryd.func19 (by kernel_rfl) rfl
  obtain ⟨V, hV⟩ : ∃ V, V = wq3 := ⟨_, rfl⟩
  rw [← hV] at q Bl Bx By
  rw [← hV]
  clear hV
  have tb := hT.below q
  have hdV := RdLs.below hd q
  have hxV := hx.below q
  have hyV := hy.below q
  have qk := q
  refine wp_region_gsg (by kernel_rfl) (by kernel_rfl) [sgEq (.agg #[.slice aH H.length cH, .slice aQ Q.length cQ]), sgEq (.int .i64 o), sgVi (bloL H Q o), sgEq (.agg #[.slice aH H.length cH, .slice aQ Q.length cQ]), sgEq (.int .i64 o), sgVi (bloL H Q o), sgEq (.bool true), sgEq (.bool true)]
    ⟨?o0, ?o1, ?o2, ?o3, ?o4, ?o5, ?o6, ?o7, trivial⟩ ?fin
  case o0 =>
    refine GdOp.plain rfl (fun A vs w' hF hT hb hd => ?_)
    have e1 : A.eval (.tmp 4) = .pointer (some ⟨w.heap.size, 0, none⟩) := hF 4 rfl
    exact wp_loadU (us := [.slice aH H.length cH, .slice aQ Q.length cQ]) lsS2 rfl e1 (fun j u hj => by rw [Nat.zero_add]; exact (Bl.below hb Bl.lt).cell hj) ⟨_, rfl, rfl, Below.refl _ _⟩
  case o1 =>
    refine GdOp.plain rfl (fun A vs w' hF hT hb hd => ?_)
    have e1 : A.eval (.tmp 3) = .int .i64 o := hF 3 rfl
    exact BigFrame.wp_move _ rfl ⟨_, rfl, e1, Below.refl _ _⟩
  case o2 =>
    refine GdOp.plain rfl (fun A vs w' hF hT hb hd => ?_)
    have e1 : A.eval (.tmp 26) = .agg #[.slice aH H.length cH, .slice aQ Q.length cQ] := (hT 26 0 (by simp) rfl).trans (hd ⟨0, .data⟩ (by simp) rfl)
    have e2 : A.eval (.tmp 27) = .int .i64 o := (hT 27 1 (by simp) rfl).trans (hd ⟨1, .data⟩ (by simp) rfl)
    refine wp_callFn rfl eA (args := #[.agg #[.slice aH H.length cH, .slice aQ Q.length cQ], .int .i64 o]) (by simp only [List.map_toArray, List.map_cons, List.map_nil, e1, e2]) ((lBlockers_any w' (tb.below hb) (hdV.below hb) (by omega) (by omega)).mono ?_)
    rintro e w2 ⟨l9, a9, c9, rfl, ho9, hb2, hl9⟩
    obtain rfl := blo_of hl9
    exact ⟨_, rfl, _, rfl, ⟨a9, c9, rfl, ho9.rdS fun _ _ _ => trivial⟩, hb2⟩
  case o3 =>
    refine GdOp.plain rfl (fun A vs w' hF hT hb hd => ?_)
    have e1 : A.eval (.tmp 4) = .pointer (some ⟨w.heap.size, 0, none⟩) := hF 4 rfl
    exact wp_loadU (us := [.slice aH H.length cH, .slice aQ Q.length cQ]) lsS2 rfl e1 (fun j u hj => by rw [Nat.zero_add]; exact (Bl.below hb Bl.lt).cell hj) ⟨_, rfl, rfl, Below.refl _ _⟩
  case o4 =>
    refine GdOp.plain rfl (fun A vs w' hF hT hb hd => ?_)
    have e1 : A.eval (.tmp 3) = .int .i64 o := hF 3 rfl
    exact BigFrame.wp_move _ rfl ⟨_, rfl, e1, Below.refl _ _⟩
  case o5 =>
    refine GdOp.plain rfl (fun A vs w' hF hT hb hd => ?_)
    have e1 : A.eval (.tmp 29) = .agg #[.slice aH H.length cH, .slice aQ Q.length cQ] := (hT 29 3 (by simp) rfl).trans (hd ⟨3, .data⟩ (by simp) rfl)
    have e2 : A.eval (.tmp 30) = .int .i64 o := (hT 30 4 (by simp) rfl).trans (hd ⟨4, .data⟩ (by simp) rfl)
    refine wp_callFn rfl eB (args := #[.agg #[.slice aH H.length cH, .slice aQ Q.length cQ], .int .i64 o]) (by simp only [List.map_toArray, List.map_cons, List.map_nil, e1, e2]) ((refBlockers_any w' (hdV.below hb) (by omega) (by omega)).mono ?_)
    rintro e w2 ⟨a9, c9, rfl, ho9, hb2⟩
    exact ⟨_, rfl, _, rfl, ⟨a9, c9, rfl, ho9.rdS fun _ _ _ => trivial⟩, hb2⟩
  case o6 =>
    refine GdOp.plain rfl (fun A vs w' hF hT hb hd => ?_)
    obtain ⟨a1, c1, q1, hr1⟩ := hd ⟨2, .data⟩ (by simp) rfl
    have e1 : A.eval (.tmp 28) = .slice a1 (bloL H Q o).length c1 := (hT 28 2 (by simp) rfl).trans q1
    obtain ⟨a2, c2, q2, hr2⟩ := hd ⟨5, .data⟩ (by simp) rfl
    have e2 : A.eval (.tmp 31) = .slice a2 (bloL H Q o).length c2 := (hT 31 5 (by simp) rfl).trans q2
    refine wp_callFn rfl eN (args := #[.slice a1 (bloL H Q o).length c1, .slice a2 (bloL H Q o).length c2]) (by simp only [List.map_toArray, List.map_cons, List.map_nil, e1, e2]) ((numbers_any w' hr1 hr2).mono ?_)
    rintro e w2 ⟨rfl, hb2⟩
    exact ⟨_, rfl, _, rfl, congrArg Value.bool (decide_eq_true rfl), hb2⟩
  case o7 =>
    refine GdOp.plain rfl (fun A vs w' hF hT hb hd => ?_)
    have e1 : A.eval (.tmp 32) = .bool true := (hT 32 6 (by simp) rfl).trans (hd ⟨6, .data⟩ (by simp) rfl)
    exact BigFrame.wp_assign _ rfl ⟨_, rfl, e1, Below.refl _ _⟩
  case fin =>
  intro vs9 W9 hb9 hG9
  have e0 : vs9 0 = .agg #[.slice aH H.length cH, .slice aQ Q.length cQ] := hG9 0 (by decide)
  have e1 : vs9 1 = .int .i64 o := hG9 1 (by decide)
  obtain ⟨gx2, gy2, e2, _⟩ := hG9 2 (by decide)
  have e3 : vs9 3 = .agg #[.slice aH H.length cH, .slice aQ Q.length cQ] := hG9 3 (by decide)
  have e4 : vs9 4 = .int .i64 o := hG9 4 (by decide)
  obtain ⟨gx5, gy5, e5, _⟩ := hG9 5 (by decide)
  have e6 : vs9 6 = .bool true := hG9 6 (by decide)
  have e7 : vs9 7 = .bool true := hG9 7 (by decide)
  simp only [putAll, e0, e1, e2, e3, e4, e5, e6, e7]
  clear hG9 e0 e1 e2 e3 e4 e5 e6 e7
  replace Bl := Bl.below hb9 Bl.lt
  replace Bx := Bx.below hb9 Bx.lt
  replace By := By.below hb9 By.lt
  replace q := q.trans (hb9.mono q.size)
  clear hb9
  go_simp
  go_upto_region 5 with (fail)
  obtain ⟨U, hU⟩ : ∃ V, V = W9 := ⟨_, rfl⟩
  rw [← hU] at q Bl Bx By
  rw [← hU]
  clear hU
  replace tb := hT.below q
  replace hdV := RdLs.below hd q
  replace hxV := hx.below q
  replace hyV := hy.below q
  have k3 := fun (V : World) (hV : Below U.heap.size U V) => lCheck_any V (tb.below hV) (hdV.below hV) (by omega) (by omega)
  have k5 := fun (V : World) (hV : Below U.heap.size U V) => refChk_any V (hdV.below hV) (by omega) (by omega)
  have k11 := fun (V : World) (hV : Below U.heap.size U V) => clash_any V (tb.below hV) (hxV.below hV) (hyV.below hV)
  have k14 := fun (V : World) (hV : Below U.heap.size U V) => rClash_any V (hxV.below hV) (hyV.below hV)
  have k23 := fun (V : World) (hV : Below U.heap.size U V) => lWaits_any V (o := o) (tb.below hV) (hdV.below hV) (by omega) (by omega)
  have k26 := fun (V : World) (hV : Below U.heap.size U V) => refWaits_any V (o := o) (hdV.below hV) (by omega) (by omega)
  obtain ⟨ww, hww⟩ : ∃ b, b = (decide (okLk H Q) && waitsL Q o) := ⟨_, rfl⟩
  rw [← hww] at k23 k26
  obtain ⟨kh, hkh⟩ : ∃ b, b = decide (okLk H Q) := ⟨_, rfl⟩
  rw [← hkh] at k3 k5
  obtain ⟨cc, hcc⟩ : ∃ b, b = clashL x y := ⟨_, rfl⟩
  rw [← hcc] at k11 k14
  clear hww hkh hcc hxV hyV hdV tb hnH hnQ
  refine wp_region_gsa (by kernel_rfl) (by kernel_rfl) [sgEq (.bool true), sgEq (.bool true), sgEq (.agg #[.slice aH H.length cH, .slice aQ Q.length cQ]), sgEq (.bool kh), sgEq (.agg #[.slice aH H.length cH, .slice aQ Q.length cQ]), sgEq (.bool kh), sgEq (.bool true), sgEq (.bool true), sgEq (.bool true), sgEq (.agg #[.int .i64 x.owner, .bool x.whole, .int .i64 x.span.table, .slice x1 x.span.lo.length x2, .slice x3 x.span.hi.length x4, .bool x.span.isOpen, .int .i64 x.mode]), sgEq (.agg #[.int .i64 y.owner, .bool y.whole, .int .i64 y.span.table, .slice y1 y.span.lo.length y2, .slice y3 y.span.hi.length y4, .bool y.span.isOpen, .int .i64 y.mode]), sgEq (.bool cc), sgEq (.agg #[.int .i64 x.owner, .bool x.whole, .int .i64 x.span.table, .slice x1 x.span.lo.length x2, .slice x3 x.span.hi.length x4, .bool x.span.isOpen, .int .i64 x.mode]), sgEq (.agg #[.int .i64 y.owner, .bool y.whole, .int .i64 y.span.table, .slice y1 y.span.lo.length y2, .slice y3 y.span.hi.length y4, .bool y.span.isOpen, .int .i64 y.mode]), sgEq (.bool cc), sgEq (.bool true), sgEq (.bool true), sgEq (.bool true), sgEq (.bool true), sgEq (.bool true), sgEq (.bool true), sgEq (.agg #[.slice aH H.length cH, .slice aQ Q.length cQ]), sgEq (.int .i64 o), sgEq (.bool ww), sgEq (.agg #[.slice aH H.length cH, .slice aQ Q.length cQ]), sgEq (.int .i64 o), sgEq (.bool ww), sgEq (.bool true), sgEq (.bool true), sgEq (.bool true)]
    ⟨?o0, ?o1, ?o2, ?o3, ?o4, ?o5, ?o6, ?o7, ?o8, ?o9, ?o10, ?o11, ?o12, ?o13, ?o14, ?o15, ?o16, ?o17, ?o18, ?o19, ?o20, ?o21, ?o22, ?o23, ?o24, ?o25, ?o26, ?o27, ?o28, ?o29, trivial⟩ ?fin
  case o0 =>
    refine GdOp.plain rfl (fun A vs w' hF hT hb hd => ?_)
    have e1 : A.eval (.tmp 9) = .bool true := hF 9 rfl
    exact BigFrame.wp_move _ rfl ⟨_, rfl, e1, Below.refl _ _⟩
  case o1 =>
    refine GdOp.plain rfl (fun A vs w' hF hT hb hd => ?_)
    have e1 : A.eval (.tmp 33) = .bool true := (hT 33 0 (by simp) rfl).trans (hd ⟨0, .data⟩ (by simp) rfl)
    exact BigFrame.wp_move _ rfl ⟨_, rfl, e1, Below.refl _ _⟩
  case o2 =>
    refine GdOp.taken rfl ⟨_, _, rfl, rfl, by simp⟩ (by kernel_rfl) (fun w v h => h) (fun A vs w' hF hT hb hd => ?_)
    have e1 : A.eval (.tmp 4) = .pointer (some ⟨w.heap.size, 0, none⟩) := hF 4 rfl
    exact wp_loadU (us := [.slice aH H.length cH, .slice aQ Q.length cQ]) lsS2 rfl e1 (fun j u hj => by rw [Nat.zero_add]; exact (Bl.below hb Bl.lt).cell hj) ⟨_, rfl, rfl, Below.refl _ _⟩
  case o3 =>
    refine GdOp.taken rfl ⟨_, _, rfl, rfl, by simp⟩ (by kernel_rfl) (fun w v h => h) (fun A vs w' hF hT hb hd => ?_)
    have e1 : A.eval (.tmp 35) = .agg #[.slice aH H.length cH, .slice aQ Q.length cQ] := (hT 35 2 (by simp) rfl).trans (hd ⟨2, .data⟩ (by simp) rfl)
    refine wp_callFn rfl eC (args := #[.agg #[.slice aH H.length cH, .slice aQ Q.length cQ]]) (by simp only [List.map_toArray, List.map_cons, List.map_nil, e1]) ((k3 w' hb).mono ?_)
    rintro e w2 ⟨rfl, hb2⟩
    exact ⟨_, rfl, _, rfl, rfl, hb2⟩
  case o4 =>
    refine GdOp.taken rfl ⟨_, _, rfl, rfl, by simp⟩ (by kernel_rfl) (fun w v h => h) (fun A vs w' hF hT hb hd => ?_)
    have e1 : A.eval (.tmp 4) = .pointer (some ⟨w.heap.size, 0, none⟩) := hF 4 rfl
    exact wp_loadU (us := [.slice aH H.length cH, .slice aQ Q.length cQ]) lsS2 rfl e1 (fun j u hj => by rw [Nat.zero_add]; exact (Bl.below hb Bl.lt).cell hj) ⟨_, rfl, rfl, Below.refl _ _⟩
  case o5 =>
    refine GdOp.taken rfl ⟨_, _, rfl, rfl, by simp⟩ (by kernel_rfl) (fun w v h => h) (fun A vs w' hF hT hb hd => ?_)
    have e1 : A.eval (.tmp 37) = .agg #[.slice aH H.length cH, .slice aQ Q.length cQ] := (hT 37 4 (by simp) rfl).trans (hd ⟨4, .data⟩ (by simp) rfl)
    refine wp_callFn rfl eD (args := #[.agg #[.slice aH H.length cH, .slice aQ Q.length cQ]]) (by simp only [List.map_toArray, List.map_cons, List.map_nil, e1]) ((k5 w' hb).mono ?_)
    rintro e w2 ⟨rfl, hb2⟩
    exact ⟨_, rfl, _, rfl, rfl, hb2⟩
  case o6 =>
    refine GdOp.taken rfl ⟨_, _, rfl, rfl, by simp⟩ (by kernel_rfl) (fun w v h => h) (fun A vs w' hF hT hb hd => ?_)
    have e1 : A.eval (.tmp 36) = .bool kh := (hT 36 3 (by simp) rfl).trans (hd ⟨3, .data⟩ (by simp) rfl)
    have e2 : A.eval (.tmp 38) = .bool kh := (hT 38 5 (by simp) rfl).trans (hd ⟨5, .data⟩ (by simp) rfl)
    exact wp_eqlB (by kernel_rfl) rfl e1 e2 ⟨_, rfl, congrArg Value.bool (beq_self_eq_true _), Below.refl _ _⟩
  case o7 =>
    refine GdOp.plain rfl (fun A vs w' hF hT hb hd => ?_)
    have e1 : A.eval (.tmp 34) = .bool true := (hT 34 1 (by simp) rfl).trans (hd ⟨1, .data⟩ (by simp) rfl)
    have e2 : A.eval (.tmp 39) = .bool true := (hT 39 6 (by simp) rfl).trans (hd ⟨6, .data⟩ (by simp) rfl)
    exact wp_pk rfl e1 (fun _ => e2) (by simp) ⟨_, rfl, rfl, Below.refl _ _⟩
  case o8 =>
    refine GdOp.plain rfl (fun A vs w' hF hT hb hd => ?_)
    have e1 : A.eval (.tmp 40) = .bool true := (hT 40 7 (by simp) rfl).trans (hd ⟨7, .data⟩ (by simp) rfl)
    exact BigFrame.wp_move _ rfl ⟨_, rfl, e1, Below.refl _ _⟩
  case o9 =>
    refine GdOp.taken rfl ⟨_, _, rfl, rfl, by simp⟩ (by kernel_rfl) (fun w v h => h) (fun A vs w' hF hT hb hd => ?_)
    have e1 : A.eval (.tmp 5) = .pointer (some ⟨w.heap.size + 1, 0, none⟩) := hF 5 rfl
    exact wp_loadU (us := [.int .i64 x.owner, .bool x.whole, .int .i64 x.span.table, .slice x1 x.span.lo.length x2, .slice x3 x.span.hi.length x4, .bool x.span.isOpen, .int .i64 x.mode]) lkS rfl e1 (fun j u hj => by rw [Nat.zero_add]; exact (Bx.below hb Bx.lt).cell hj) ⟨_, rfl, rfl, Below.refl _ _⟩
  case o10 =>
    refine GdOp.taken rfl ⟨_, _, rfl, rfl, by simp⟩ (by kernel_rfl) (fun w v h => h) (fun A vs w' hF hT hb hd => ?_)
    have e1 : A.eval (.tmp 6) = .pointer (some ⟨w.heap.size + 1 + 1, 0, none⟩) := hF 6 rfl
    exact wp_loadU (us := [.int .i64 y.owner, .bool y.whole, .int .i64 y.span.table, .slice y1 y.span.lo.length y2, .slice y3 y.span.hi.length y4, .bool y.span.isOpen, .int .i64 y.mode]) lkS rfl e1 (fun j u hj => by rw [Nat.zero_add]; exact (By.below hb By.lt).cell hj) ⟨_, rfl, rfl, Below.refl _ _⟩
  case o11 =>
    refine GdOp.taken rfl ⟨_, _, rfl, rfl, by simp⟩ (by kernel_rfl) (fun w v h => h) (fun A vs w' hF hT hb hd => ?_)
    have e1 : A.eval (.tmp 42) = .agg #[.int .i64 x.owner, .bool x.whole, .int .i64 x.span.table, .slice x1 x.span.lo.length x2, .slice x3 x.span.hi.length x4, .bool x.span.isOpen, .int .i64 x.mode] := (hT 42 9 (by simp) rfl).trans (hd ⟨9, .data⟩ (by simp) rfl)
    have e2 : A.eval (.tmp 43) = .agg #[.int .i64 y.owner, .bool y.whole, .int .i64 y.span.table, .slice y1 y.span.lo.length y2, .slice y3 y.span.hi.length y4, .bool y.span.isOpen, .int .i64 y.mode] := (hT 43 10 (by simp) rfl).trans (hd ⟨10, .data⟩ (by simp) rfl)
    refine wp_callFn rfl eE (args := #[.agg #[.int .i64 x.owner, .bool x.whole, .int .i64 x.span.table, .slice x1 x.span.lo.length x2, .slice x3 x.span.hi.length x4, .bool x.span.isOpen, .int .i64 x.mode], .agg #[.int .i64 y.owner, .bool y.whole, .int .i64 y.span.table, .slice y1 y.span.lo.length y2, .slice y3 y.span.hi.length y4, .bool y.span.isOpen, .int .i64 y.mode]]) (by simp only [List.map_toArray, List.map_cons, List.map_nil, e1, e2]) ((k11 w' hb).mono ?_)
    rintro e w2 ⟨rfl, hb2⟩
    exact ⟨_, rfl, _, rfl, rfl, hb2⟩
  case o12 =>
    refine GdOp.taken rfl ⟨_, _, rfl, rfl, by simp⟩ (by kernel_rfl) (fun w v h => h) (fun A vs w' hF hT hb hd => ?_)
    have e1 : A.eval (.tmp 5) = .pointer (some ⟨w.heap.size + 1, 0, none⟩) := hF 5 rfl
    exact wp_loadU (us := [.int .i64 x.owner, .bool x.whole, .int .i64 x.span.table, .slice x1 x.span.lo.length x2, .slice x3 x.span.hi.length x4, .bool x.span.isOpen, .int .i64 x.mode]) lkS rfl e1 (fun j u hj => by rw [Nat.zero_add]; exact (Bx.below hb Bx.lt).cell hj) ⟨_, rfl, rfl, Below.refl _ _⟩
  case o13 =>
    refine GdOp.taken rfl ⟨_, _, rfl, rfl, by simp⟩ (by kernel_rfl) (fun w v h => h) (fun A vs w' hF hT hb hd => ?_)
    have e1 : A.eval (.tmp 6) = .pointer (some ⟨w.heap.size + 1 + 1, 0, none⟩) := hF 6 rfl
    exact wp_loadU (us := [.int .i64 y.owner, .bool y.whole, .int .i64 y.span.table, .slice y1 y.span.lo.length y2, .slice y3 y.span.hi.length y4, .bool y.span.isOpen, .int .i64 y.mode]) lkS rfl e1 (fun j u hj => by rw [Nat.zero_add]; exact (By.below hb By.lt).cell hj) ⟨_, rfl, rfl, Below.refl _ _⟩
  case o14 =>
    refine GdOp.taken rfl ⟨_, _, rfl, rfl, by simp⟩ (by kernel_rfl) (fun w v h => h) (fun A vs w' hF hT hb hd => ?_)
    have e1 : A.eval (.tmp 45) = .agg #[.int .i64 x.owner, .bool x.whole, .int .i64 x.span.table, .slice x1 x.span.lo.length x2, .slice x3 x.span.hi.length x4, .bool x.span.isOpen, .int .i64 x.mode] := (hT 45 12 (by simp) rfl).trans (hd ⟨12, .data⟩ (by simp) rfl)
    have e2 : A.eval (.tmp 46) = .agg #[.int .i64 y.owner, .bool y.whole, .int .i64 y.span.table, .slice y1 y.span.lo.length y2, .slice y3 y.span.hi.length y4, .bool y.span.isOpen, .int .i64 y.mode] := (hT 46 13 (by simp) rfl).trans (hd ⟨13, .data⟩ (by simp) rfl)
    refine wp_callFn rfl eF (args := #[.agg #[.int .i64 x.owner, .bool x.whole, .int .i64 x.span.table, .slice x1 x.span.lo.length x2, .slice x3 x.span.hi.length x4, .bool x.span.isOpen, .int .i64 x.mode], .agg #[.int .i64 y.owner, .bool y.whole, .int .i64 y.span.table, .slice y1 y.span.lo.length y2, .slice y3 y.span.hi.length y4, .bool y.span.isOpen, .int .i64 y.mode]]) (by simp only [List.map_toArray, List.map_cons, List.map_nil, e1, e2]) ((k14 w' hb).mono ?_)
    rintro e w2 ⟨rfl, hb2⟩
    exact ⟨_, rfl, _, rfl, rfl, hb2⟩
  case o15 =>
    refine GdOp.taken rfl ⟨_, _, rfl, rfl, by simp⟩ (by kernel_rfl) (fun w v h => h) (fun A vs w' hF hT hb hd => ?_)
    have e1 : A.eval (.tmp 44) = .bool cc := (hT 44 11 (by simp) rfl).trans (hd ⟨11, .data⟩ (by simp) rfl)
    have e2 : A.eval (.tmp 47) = .bool cc := (hT 47 14 (by simp) rfl).trans (hd ⟨14, .data⟩ (by simp) rfl)
    exact wp_eqlB (by kernel_rfl) rfl e1 e2 ⟨_, rfl, congrArg Value.bool (beq_self_eq_true _), Below.refl _ _⟩
  case o16 =>
    refine GdOp.plain rfl (fun A vs w' hF hT hb hd => ?_)
    have e1 : A.eval (.tmp 41) = .bool true := (hT 41 8 (by simp) rfl).trans (hd ⟨8, .data⟩ (by simp) rfl)
    have e2 : A.eval (.tmp 48) = .bool true := (hT 48 15 (by simp) rfl).trans (hd ⟨15, .data⟩ (by simp) rfl)
    exact wp_pk rfl e1 (fun _ => e2) (by simp) ⟨_, rfl, rfl, Below.refl _ _⟩
  case o17 =>
    refine GdOp.plain rfl (fun A vs w' hF hT hb hd => ?_)
    have e1 : A.eval (.tmp 49) = .bool true := (hT 49 16 (by simp) rfl).trans (hd ⟨16, .data⟩ (by simp) rfl)
    exact BigFrame.wp_move _ rfl ⟨_, rfl, e1, Below.refl _ _⟩
  case o18 =>
    refine GdOp.taken rfl ⟨_, _, rfl, rfl, by simp⟩ (by kernel_rfl) (fun w v h => h) (fun A vs w' hF hT hb hd => ?_)
    have e1 : A.eval (.tmp 10) = .bool true := hF 10 rfl
    exact BigFrame.wp_move _ rfl ⟨_, rfl, e1, Below.refl _ _⟩
  case o19 =>
    refine GdOp.plain rfl (fun A vs w' hF hT hb hd => ?_)
    have e1 : A.eval (.tmp 50) = .bool true := (hT 50 17 (by simp) rfl).trans (hd ⟨17, .data⟩ (by simp) rfl)
    have e2 : A.eval (.tmp 51) = .bool true := (hT 51 18 (by simp) rfl).trans (hd ⟨18, .data⟩ (by simp) rfl)
    exact wp_pk rfl e1 (fun _ => e2) (by simp) ⟨_, rfl, rfl, Below.refl _ _⟩
  case o20 =>
    refine GdOp.plain rfl (fun A vs w' hF hT hb hd => ?_)
    have e1 : A.eval (.tmp 52) = .bool true := (hT 52 19 (by simp) rfl).trans (hd ⟨19, .data⟩ (by simp) rfl)
    exact BigFrame.wp_move _ rfl ⟨_, rfl, e1, Below.refl _ _⟩
  case o21 =>
    refine GdOp.taken rfl ⟨_, _, rfl, rfl, by simp⟩ (by kernel_rfl) (fun w v h => h) (fun A vs w' hF hT hb hd => ?_)
    have e1 : A.eval (.tmp 4) = .pointer (some ⟨w.heap.size, 0, none⟩) := hF 4 rfl
    exact wp_loadU (us := [.slice aH H.length cH, .slice aQ Q.length cQ]) lsS2 rfl e1 (fun j u hj => by rw [Nat.zero_add]; exact (Bl.below hb Bl.lt).cell hj) ⟨_, rfl, rfl, Below.refl _ _⟩
  case o22 =>
    refine GdOp.taken rfl ⟨_, _, rfl, rfl, by simp⟩ (by kernel_rfl) (fun w v h => h) (fun A vs w' hF hT hb hd => ?_)
    have e1 : A.eval (.tmp 3) = .int .i64 o := hF 3 rfl
    exact BigFrame.wp_move _ rfl ⟨_, rfl, e1, Below.refl _ _⟩
  case o23 =>
    refine GdOp.taken rfl ⟨_, _, rfl, rfl, by simp⟩ (by kernel_rfl) (fun w v h => h) (fun A vs w' hF hT hb hd => ?_)
    have e1 : A.eval (.tmp 54) = .agg #[.slice aH H.length cH, .slice aQ Q.length cQ] := (hT 54 21 (by simp) rfl).trans (hd ⟨21, .data⟩ (by simp) rfl)
    have e2 : A.eval (.tmp 55) = .int .i64 o := (hT 55 22 (by simp) rfl).trans (hd ⟨22, .data⟩ (by simp) rfl)
    refine wp_callFn rfl eG (args := #[.agg #[.slice aH H.length cH, .slice aQ Q.length cQ], .int .i64 o]) (by simp only [List.map_toArray, List.map_cons, List.map_nil, e1, e2]) ((k23 w' hb).mono ?_)
    rintro e w2 ⟨rfl, hb2⟩
    exact ⟨_, rfl, _, rfl, rfl, hb2⟩
  case o24 =>
    refine GdOp.taken rfl ⟨_, _, rfl, rfl, by simp⟩ (by kernel_rfl) (fun w v h => h) (fun A vs w' hF hT hb hd => ?_)
    have e1 : A.eval (.tmp 4) = .pointer (some ⟨w.heap.size, 0, none⟩) := hF 4 rfl
    exact wp_loadU (us := [.slice aH H.length cH, .slice aQ Q.length cQ]) lsS2 rfl e1 (fun j u hj => by rw [Nat.zero_add]; exact (Bl.below hb Bl.lt).cell hj) ⟨_, rfl, rfl, Below.refl _ _⟩
  case o25 =>
    refine GdOp.taken rfl ⟨_, _, rfl, rfl, by simp⟩ (by kernel_rfl) (fun w v h => h) (fun A vs w' hF hT hb hd => ?_)
    have e1 : A.eval (.tmp 3) = .int .i64 o := hF 3 rfl
    exact BigFrame.wp_move _ rfl ⟨_, rfl, e1, Below.refl _ _⟩
  case o26 =>
    refine GdOp.taken rfl ⟨_, _, rfl, rfl, by simp⟩ (by kernel_rfl) (fun w v h => h) (fun A vs w' hF hT hb hd => ?_)
    have e1 : A.eval (.tmp 57) = .agg #[.slice aH H.length cH, .slice aQ Q.length cQ] := (hT 57 24 (by simp) rfl).trans (hd ⟨24, .data⟩ (by simp) rfl)
    have e2 : A.eval (.tmp 58) = .int .i64 o := (hT 58 25 (by simp) rfl).trans (hd ⟨25, .data⟩ (by simp) rfl)
    refine wp_callFn rfl eH (args := #[.agg #[.slice aH H.length cH, .slice aQ Q.length cQ], .int .i64 o]) (by simp only [List.map_toArray, List.map_cons, List.map_nil, e1, e2]) ((k26 w' hb).mono ?_)
    rintro e w2 ⟨rfl, hb2⟩
    exact ⟨_, rfl, _, rfl, rfl, hb2⟩
  case o27 =>
    refine GdOp.taken rfl ⟨_, _, rfl, rfl, by simp⟩ (by kernel_rfl) (fun w v h => h) (fun A vs w' hF hT hb hd => ?_)
    have e1 : A.eval (.tmp 56) = .bool ww := (hT 56 23 (by simp) rfl).trans (hd ⟨23, .data⟩ (by simp) rfl)
    have e2 : A.eval (.tmp 59) = .bool ww := (hT 59 26 (by simp) rfl).trans (hd ⟨26, .data⟩ (by simp) rfl)
    exact wp_eqlB (by kernel_rfl) rfl e1 e2 ⟨_, rfl, congrArg Value.bool (beq_self_eq_true _), Below.refl _ _⟩
  case o28 =>
    refine GdOp.plain rfl (fun A vs w' hF hT hb hd => ?_)
    have e1 : A.eval (.tmp 53) = .bool true := (hT 53 20 (by simp) rfl).trans (hd ⟨20, .data⟩ (by simp) rfl)
    have e2 : A.eval (.tmp 60) = .bool true := (hT 60 27 (by simp) rfl).trans (hd ⟨27, .data⟩ (by simp) rfl)
    exact wp_pk rfl e1 (fun _ => e2) (by simp) ⟨_, rfl, rfl, Below.refl _ _⟩
  case o29 =>
    refine GdOp.plain rfl (fun A vs w' hF hT hb hd => ?_)
    have e1 : A.eval (.tmp 61) = .bool true := (hT 61 28 (by simp) rfl).trans (hd ⟨28, .data⟩ (by simp) rfl)
    exact BigFrame.wp_assign _ rfl ⟨_, rfl, e1, Below.refl _ _⟩
  case fin =>
  intro A9 vs9 W8 hA9 hb9 hG9
  have e8 : A9.eval (.tmp 8) = .bool true := (hA9.2.2.2 8 29 (by simp) rfl).trans (hG9 29 (by decide))
  have hd9 : A9.defers = [] := hA9.1
  clear hG9 hA9
  go_wp2
  refine bodyPost_ret (v := .bool true) ?_ hd9 ⟨rfl, q.trans (hb9.mono q.size)⟩
  rw [← e8]
  exact results_tmp rfl _ _ _
end Go.Proofs.YtpdnehgboafgpaaDoor
