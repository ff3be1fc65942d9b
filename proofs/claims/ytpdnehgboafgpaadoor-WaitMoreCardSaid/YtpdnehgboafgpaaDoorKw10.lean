/-
  TEXTS OF ONE PROOF, merged: WaF, LtA, LtD, LtF, WaG, LkX.
-/
import Derived.DeepKeys
import Derived.Test.YtpdnehgboafgpaaDoorKw9
namespace Go.Proofs.YtpdnehgboafgpaaDoor
open Go.RowKit Go.Shelf
set_option maxRecDepth 100000 in
set_option maxHeartbeats 4000000 in
theorem rStuck_any (w : World) {S : Nat → Prop} {a : Option Addr} {n c : Nat} {E : List Ed} (h : RdL Elt.ed S w (.slice a n c) E) :
    Calls Tryd.prog 28 #[.slice a n c] w fun e w' => ∃ a c, e = .returned (.slice a (stuckL E).length c) ∧ OwnL Elt.int 3 w.heap.size w.heap.size w' (.slice a (stuckL E).length c) (stuckL E) ∧ Below w.heap.size w w' := by
  have q := Below.refl w.heap.size w
  have hcl0 := fun (V : World) (o : Nat) (hV : Below w.heap.size w V) (ho : o < 4) => reach_any 4 (by omega) V o (h.below hV) ho
  go_enter Tryd.func28, Tryd.ntmps28
  go_upto_region 3 with (fail)
  obtain ⟨f, ef⟩ : ∃ f, f = stkB E := ⟨_, rfl⟩
  have hf : ∀ k, reachE E 4 k k = f k := fun k => by rw [ef]; rfl
  replace ef := Lib.hid (show stuckL E = markL f 4 by rw [ef]; rfl)
  go_loopw [3, 4] (fun ov iv wr => ∃ (k : Nat) (ad : Option Addr) (co : Nat), iv = .int .i64 k ∧ k ≤ 4 ∧ ov = .slice ad (markL f k).length co ∧ OwnL Elt.int 3 w.heap.size w.heap.size wr (.slice ad (markL f k).length co) (markL f k) ∧ Below w.heap.size w wr)
    (fun _ i _ => 4 - (intOf i).toNat)
  case atStart => exact ⟨0, none, 0, rfl, by omega, rfl, OwnL.nil _ _ _ _ _, q⟩
  case round =>
    clear q
    obtain ⟨k, ad, co, rfl, hk4, rfl, hO, q⟩ := hrel
    rcases Nat.lt_or_ge k 4 with hlt | hge
    · have hcl := hcl0 wr k q hlt
      obtain ⟨M, eM⟩ : ∃ M, M = reachE E 4 k := ⟨_, rfl⟩
      have hfk : M k = f k := by rw [eM]; exact hf k
      rw [← eM] at hcl
      clear eM
      have hsn := Lib.hid (markL_succ f k)
      have hln0 := markL_len f k
      obtain ⟨xs, exs⟩ : ∃ xs, xs = markL f k := ⟨_, rfl⟩
      rw [← exs] at hO hsn hln0
      rw [← exs]
      clear exs
      have d0 : decide ((k : Int) < 4) = true := decide_eq_true (by omega)
      go_wp2_with fail
      refine hcl.mono ?_
      rintro e w5 ⟨rfl, hb⟩
      clear hcl d0
      replace q := q.trans (hb.mono q.size)
      replace hO := hO.below hb
      clear hb
      go_upto_region 6 with (first | (refine wpList_boxNew (vs := [.bool false, .bool false, .bool false, .bool false]) (by kernel_rfl) rfl rfl ?_; intro wa hba hBa) | (refine wpList_boxStore (us := [.bool (M 0), .bool (M 1), .bool (M 2), .bool (M 3)]) (by kernel_rfl) rfl rfl rfl rfl rfl rfl hBa rfl ?_; intro w6 hgw Bm) | fail)
      try go_simp
      have hbw := hba.grown hgw hba.size fun k hk => by injection hk with hk; omega
      obtain ⟨b, eb⟩ : ∃ b, b = w5.heap.size := ⟨_, rfl⟩
      rw [← eb] at Bm
      rw [← eb]
      replace q := q.trans (hbw.mono q.size)
      replace hO := hO.below hbw
      clear hbw hgw hba hBa eb
      replace Bm : BoxN w6 b 51 (b4 M) := Bm
      have ck0 : w6.cell? ⟨b, k, none⟩ = some (.bool (f k)) := by rw [← hfk]; exact Bm.cell (b4_at M hlt)
      have ck1 : w6.cell? ⟨b, 0 + k * 1, none⟩ = some (.bool (f k)) := by rw [show 0 + k * 1 = k by omega]; exact ck0
      have ck2 : w6.cell? ⟨b, 0 + k, none⟩ = some (.bool (f k)) := by rw [show 0 + k = k by omega]; exact ck0
      obtain ⟨bk, ebk⟩ : ∃ b, b = f k := ⟨_, rfl⟩
      rw [← ebk] at ck0 ck1 ck2 hsn
      clear ebk hfk
      have hs0 := q.size
      cases bk with
      | true =>
        have hs2 := Lib.hid (show markL f (k + 1) = xs ++ [(k : Int)] by rw [hsn.out]; simp)
        clear hsn
        have hrr : ∀ k, Value.ownBlock (.slice ad xs.length co) = some k → w.heap.size ≤ k ∧ k < w6.heap.size := fun k hk => hO.block_lt k hk
        have hR : ∀ V, Elt.int.R (fun k => w.heap.size ≤ k ∧ k < w.heap.size) V (k : Int) [.int .i64 (k : Int)] := fun V => ⟨rfl, by unfold W64; omega⟩
        have hSV : ∀ V : World, ∀ k, (w.heap.size ≤ k ∧ k < w.heap.size) → w.heap.size ≤ k ∧ k < V.heap.size ∧ some k ≠ Value.ownBlock (.slice ad xs.length co) := fun V k hk => by omega
        have hbs : ∀ V : World, Below w6.heap.size w6 V → w.heap.size ≤ V.heap.size := fun V h => by have := h.size; omega
        go_wp2_with (first
          | (refine wpList_buildOne inP rfl rfl rfl (us := [.int .i64 (k : Int)]) rfl rfl (by decide) (by decide) ?_; intro w7 hb7 hrow)
          | (refine wpList_apvRow (E := Elt.int) (n := xs.length + 1) inP rfl rfl rfl rfl (hO.below hb7) hrow (hR _) (hSV _) (hbs _ hb7) (by omega) rfl ?_; intro ad9 c9 w8 hO9 hg8 ho9)
          | fail)
        have hln : (xs ++ [(k : Int)]).length = xs.length + 1 := by rw [List.length_append]; rfl
        have q9 : Below w.heap.size w w8 := (q.trans (hb7.mono q.size)).grown hg8 (q.trans (hb7.mono q.size)).size fun k hk => (hrr k hk).1
        rw [← hln] at hO9
        clear hrr hR hSV hbs hg8 hO hrow hb7 ho9
        go_roundw
        case rel => exact ⟨k + 1, ad9, c9, by go_num, by omega, by rw [hs2.out, hln], by rw [hs2.out]; exact hO9, q9⟩
        case measure => simp [intOf]; omega
      | false =>
        have hs2 := Lib.hid (show markL f (k + 1) = xs by rw [hsn.out]; simp)
        clear hsn
        go_wp2_with fail
        go_roundw
        case rel => exact ⟨k + 1, ad, co, by go_num, by omega, by rw [hs2.out], by rw [hs2.out]; exact hO, q⟩
        case measure => simp [intOf]; omega
    · obtain rfl : k = 4 := by omega
      go_wp2_with fail
      go_ret
      exact ⟨ad, co, by rw [ef.out]; rfl, by rw [ef.out]; exact hO, q⟩
set_option maxRecDepth 100000 in
set_option maxHeartbeats 4000000 in
theorem rVictim_any (w : World) {S : Nat → Prop} {a : Option Addr} {n c : Nat} {E : List Ed} (h : RdL Elt.ed S w (.slice a n c) E) (s : Nat → Int) :
    Calls Tryd.prog 23 #[.slice a n c, .agg #[.int .i64 (s 0), .int .i64 (s 1), .int .i64 (s 2), .int .i64 (s 3)]] w fun e w' => VicEnd E s e ∧ Below w.heap.size w w' := by
  obtain ⟨W, hW, q, Bs, hsz⟩ := spBox w 40 [.int .i64 (s 0), .int .i64 (s 1), .int .i64 (s 2), .int .i64 (s 3)]
  clear hsz
  go_enter Tryd.func23, Tryd.ntmps23
  go_upto_region 1 with (fail)
  rw [show w.alloc (.cells #[.int .i64 (s 0), .int .i64 (s 1), .int .i64 (s 2), .int .i64 (s 3)] 40) = W from hW.symm]
  clear hW
  replace Bs : BoxN W w.heap.size 40 (i4 s) := Bs
  have hcl := rStuck_any W (h.below q)
  go_wp2_with fail
  refine hcl.mono ?_
  rintro e w1 ⟨al, cl, rfl, hO, hb⟩
  clear hcl
  replace q := q.trans (hb.mono q.size)
  replace Bs := Bs.below hb Bs.lt
  clear hb
  have hl : RdL Elt.int (fun _ => True) w1 (.slice al (stuckL E).length cl) (stuckL E) := hO.rdS fun _ _ _ => trivial
  clear hO
  have hr : ∀ x ∈ stuckL E, 0 ≤ x ∧ x < 4 := fun x hx => stuck_range hx
  have hup : ∀ i j (h1 : i < (stuckL E).length) (h2 : j < (stuckL E).length), i < j → (stuckL E)[i] < (stuckL E)[j] := List.pairwise_iff_getElem.1 (mark_lt (stkB E) 4)
  have hV : ∀ e, ((stuckL E = [] ∧ e = .returned (.tuple #[.int .i64 0, .bool false])) ∨ ∃ v, vicP (stuckL E) (stI s) v ∧ e = .returned (.tuple #[.int .i64 v, .bool true])) → VicEnd E s e := fun e h => h
  obtain ⟨l, el⟩ : ∃ l, l = stuckL E := ⟨_, rfl⟩
  rw [← el] at hl hr hV
  rw [← el]
  replace hup : ∀ i j (h1 : i < l.length) (h2 : j < l.length), i < j → l[i] < l[j] := by rw [el]; exact hup
  clear el
  replace hup := Lib.hid hup
  replace hV := Lib.hid hV
  rcases Nat.eq_zero_or_pos l.length with hz | hz
  · have d0 : ((l.length : Int) == 0) = true := beq_iff_eq.2 (by omega)
    have hn := Lib.hid (List.eq_nil_of_length_eq_zero hz)
    clear hz
    go_wp2_with fail
    go_ret2
    exact ⟨hV.out _ (.inl ⟨hn.out, rfl⟩), q⟩
  · have d0 : ((l.length : Int) == 0) = false := beq_eq_false_iff_ne.2 (by omega)
    have hlm : l.length ≤ 9223372036854775807 := by obtain ⟨_, hc, hm⟩ := hl.len; unfold maxLen at hm; omega
    obtain ⟨b, off, rfl, _, c0, _⟩ := hl.num 0 hz
    replace c0 : w1.cell? ⟨b, off, none⟩ = some (.int .i64 l[0]) := c0
    have hv0 := Lib.hid (show vicP (l.take 1) (stI s) l[0] by
      have e : l.take 1 = [l[0]] := by
        rw [List.take_succ_eq_append_getElem hz]; rfl
      rw [e]; exact vic_one _ _)
    obtain ⟨v0, ev0⟩ : ∃ v, v = l[0] := ⟨_, rfl⟩
    rw [← ev0] at c0 hv0
    clear ev0
    replace hz := Lib.hid hz
    go_upto_region 6 with (fail)
    clear d0 c0
    go_loopw [7, 8] (fun vv iv wr => ∃ (v : Int) (k : Nat), vv = .int .i64 v ∧ iv = .int .i64 (k : Int) ∧ 1 ≤ k ∧ k ≤ l.length ∧ vicP (l.take k) (stI s) v ∧ BoxN wr w.heap.size 40 (i4 s) ∧ Below w1.heap.size w1 wr)
      (fun _ i _ => l.length - (intOf i).toNat)
    case atStart => exact ⟨v0, 1, rfl, rfl, by omega, hz.out, hv0.out, Bs, Below.refl _ _⟩
    case round =>
      clear hv0
      obtain ⟨v, k, rfl, rfl, hk1, hkl, hv, Bs2, q2⟩ := hrel
      replace hv := Lib.hid hv
      rcases Nat.lt_or_ge k l.length with hlt | hge
      · obtain ⟨b2, o2, e2, _, ck, _⟩ := (hl.below q2).num k hlt
        injection e2 with e2
        injection e2 with f1 f2 _
        subst f1 f2
        have hx := hr _ (List.getElem_mem hlt)
        have hvr := hr v (List.take_subset _ _ hv.out.1)
        have hvx : v < l[k] := by
          obtain ⟨i, hi, e⟩ := List.mem_take_iff_getElem.1 hv.out.1
          rw [← e]
          exact hup.out i k _ hlt (by omega)
        have hsn := Lib.hid (List.take_succ_eq_append_getElem hlt)
        obtain ⟨x, ex⟩ : ∃ x, x = l[k] := ⟨_, rfl⟩
        rw [← ex] at ck hx hsn hvx
        clear ex
        obtain ⟨i, rfl⟩ : ∃ i : Nat, x = (i : Int) := ⟨x.toNat, by omega⟩
        obtain ⟨j, rfl⟩ : ∃ j : Nat, v = (j : Int) := ⟨v.toNat, by omega⟩
        have hi : i < 4 := by omega
        have hj : j < 4 := by omega
        have d1 : decide ((k : Int) < (l.length : Int)) = true := decide_eq_true (by omega)
        have s0 := Bs2.cell (i4_at s hi)
        have s1 : wr.cell? ⟨w.heap.size, 0 + i * 1, none⟩ = some (.int .i64 (s i)) := by rw [show 0 + i * 1 = i by omega]; exact s0
        have s2 : wr.cell? ⟨w.heap.size, 0 + i, none⟩ = some (.int .i64 (s i)) := by rw [show 0 + i = i by omega]; exact s0
        have t0 := Bs2.cell (i4_at s hj)
        have t1 : wr.cell? ⟨w.heap.size, 0 + j * 1, none⟩ = some (.int .i64 (s j)) := by rw [show 0 + j * 1 = j by omega]; exact t0
        have t2 : wr.cell? ⟨w.heap.size, 0 + j, none⟩ = some (.int .i64 (s j)) := by rw [show 0 + j = j by omega]; exact t0
        replace hvx := Lib.hid hvx
        have hyp := Lib.hid (show s j ≤ s i ↔ s j ≤ s i from Iff.rfl)
        have hmo := Lib.hid (show s j ≤ s i → vicP (l.take (k + 1)) (stI s) (i : Int) from fun h => by
          rw [hsn.out]
          refine vic_more hv.out ?_
          have := hvx.out
          simp only [stI, Int.toNat_natCast]
          omega)
        have hst := Lib.hid (show ¬ s j ≤ s i → vicP (l.take (k + 1)) (stI s) (j : Int) from fun h => by
          rw [hsn.out]
          refine vic_stay hv.out ?_
          simp only [stI, Int.toNat_natCast]
          omega)
        obtain ⟨y, ey⟩ : ∃ y, y = s i := ⟨_, rfl⟩
        obtain ⟨z, ez⟩ : ∃ z, z = s j := ⟨_, rfl⟩
        rw [← ey] at s0 s1 s2 hmo hst
        rw [← ez] at t0 t1 t2 hmo hst
        clear ey ez hx hvr hyp hvx hv hsn
        by_cases hz2 : z ≤ y
        · have d2 : decide (z ≤ y) = true := decide_eq_true hz2
          have d3 : decide (y ≥ z) = true := decide_eq_true hz2
          have hv2 := Lib.hid (hmo.out hz2)
          clear hz2 hmo hst
          go_upto_region 8 with (fail)
          go_quiet (fail)
          go_wp2_with fail
          go_roundw
          case rel => exact ⟨i, k + 1, rfl, by go_num, by omega, by omega, hv2.out, Bs2, Below.drewN q2 _⟩
          case measure => simp [intOf]; omega
        · have d2 : decide (z ≤ y) = false := decide_eq_false hz2
          have d3 : decide (y ≥ z) = false := decide_eq_false hz2
          have hv2 := Lib.hid (hst.out hz2)
          clear hz2 hmo hst
          go_upto_region 8 with (fail)
          go_quiet (fail)
          go_wp2_with fail
          go_roundw
          case rel => exact ⟨j, k + 1, rfl, by go_num, by omega, by omega, hv2.out, Bs2, Below.drewN q2 _⟩
          case measure => simp [intOf]; omega
      · obtain rfl : k = l.length := by omega
        have d1 : decide ((l.length : Int) < (l.length : Int)) = false := decide_eq_false (by omega)
        have hv2 := Lib.hid (show vicP l (stI s) v by have := hv.out; rwa [List.take_length] at this)
        clear hv
        go_wp2_with fail
        go_ret2
        exact ⟨hV.out _ (.inr ⟨v, hv2.out, rfl⟩), q.trans (q2.mono q.size)⟩
set_option maxRecDepth 100000 in
theorem edEqual (x1 x2 y1 y2 : Int) (w : World) : (Op.equalIn 10000 52 (.agg #[.int .i64 x1, .int .i64 x2]) (.agg #[.int .i64 y1, .int .i64 y2])).run Tryd.prog w = .ok (x1 == y1 && x2 == y2) w := by
  have hu : Tryd.prog.underlying 52 = some (.array 2 3) := by kernel_rfl
  have u3 : Tryd.prog.underlying 3 = some (.int .i64) := by kernel_rfl
  obtain ⟨i, hi⟩ := info_of_underlying u3
  have hc : Tryd.prog.cellsOf 3 = 1 := by kernel_rfl
  rw [show (10000 : Nat) = 9999 + 1 from rfl, run_equalIn_array w 9999 _ _ hu hi, hc]
  have e : List.range 2 = [0, 1] := rfl
  rw [e]
  simp only [Op.eqItems]
  go_simp
  by_cases h1 : x1 = y1 <;> by_cases h2 : x2 = y2 <;> simp [h1, h2]
theorem quiet_neEd {o : Oper} {a : Act} {K : Act → Prop} {w : World} {x y : Operand} {t : TypeId} {x1 x2 y1 y2 : Int} (ho : o.op = .binOp .neq 52 x y t) (hx : a.eval x = .agg #[.int .i64 x1, .int .i64 x2]) (hy : a.eval y = .agg #[.int .i64 y1, .int .i64 y2]) (h : K (a.put o.dst (.bool (!(x1 == y1 && x2 == y2))))) : o.quiet Tryd.prog a (fun w'' => ∃ n, w'' = w.drewN n) K := by
  have hm : Tryd.prog.eqGuardType Tryd.prog.depth 52 = false := by kernel_rfl
  refine quiet_run (fun n => ?_) h
  simp only [execOp, ho, hx, hy]
  simp [run_eqGuard_agg _ _ 52 _ _ _ _ hm, binOp, Op.equal, show Op.maxDepth = 10000 from rfl, edEqual, Bool.not_and, go_sem]
set_option maxRecDepth 100000 in
set_option maxHeartbeats 4000000 in
theorem edSame_any (w : World) {S S2 : Nat → Prop} {a a2 : Option Addr} {n cx n2 cy : Nat} {l m : List Ed} (hl : RdL Elt.ed S w (.slice a n cx) l) (hm : RdL Elt.ed S2 w (.slice a2 n2 cy) m) :
    Calls Tryd.prog 24 #[.slice a n cx, .slice a2 n2 cy] w fun e w' => e = .returned (.bool (decide (l = m))) ∧ Below w.heap.size w w' := by
  obtain ⟨rfl, hnc, hcm⟩ := hl.len
  have hlm : l.length ≤ 9223372036854775807 := by unfold maxLen at hcm; omega
  obtain ⟨rfl, hnc2, hcm2⟩ := hm.len
  have hmm : m.length ≤ 9223372036854775807 := by unfold maxLen at hcm2; omega
  have q := Below.refl w.heap.size w
  go_enter Tryd.func24, Tryd.ntmps24
  by_cases hlen : l.length = m.length
  case neg =>
    have d1 : ((l.length : Int) == (m.length : Int)) = false := beq_eq_false_iff_ne.2 (by omega)
    have d2 : (l.length == m.length) = false := beq_eq_false_iff_ne.2 hlen
    have d3 : ((l.length : Int) != (m.length : Int)) = true := bne_iff_ne.2 (by omega)
    have HK := Lib.hid (show decide (l = m) = false from decide_eq_false fun h => hlen (by rw [h]))
    clear hlen
    go_wp2_with fail
    go_ret
    exact ⟨by first | (rw [HK.out]; done) | (rw [HK.out]; rfl), q⟩
  have d1 : ((l.length : Int) == (m.length : Int)) = true := beq_iff_eq.2 (by omega)
  have d2 : (l.length == m.length) = true := beq_iff_eq.2 hlen
  have d3 : ((l.length : Int) != (m.length : Int)) = false := by rw [bne, d1]; rfl
  replace hlen := Lib.hid hlen
  go_upto_region 4 with (fail)
  clear d1 d2 d3
  go_loopw [5] (fun iv wr => ∃ (k : Nat), iv = .int .i64 k ∧ k ≤ l.length ∧ l.take k = m.take k ∧ Below w.heap.size w wr)
    (fun i _ => l.length - (intOf i).toNat)
  case atStart => exact ⟨0, rfl, Nat.zero_le _, by simp, q⟩
  case round =>
    clear q
    obtain ⟨k, rfl, hkl, hall, q⟩ := hrel
    replace hall := Lib.hid hall
    rcases Nat.lt_or_ge k l.length with hlt | hge
    · have hltm : k < m.length := by have := hlen.out; omega
      obtain ⟨b1, o1, rfl, _, c0, c1, _, _⟩ := (hl.below q).ed k hlt
      obtain ⟨b2, o2, rfl, _, e0, e1, _, _⟩ := (hm.below q).ed k hltm
      have hyes := Lib.hid (show l[k] = m[k] → l.take (k + 1) = m.take (k + 1) from fun e => by rw [List.take_succ_eq_append_getElem hlt, List.take_succ_eq_append_getElem hltm, hall.out, e])
      have hno := Lib.hid (show l[k] ≠ m[k] → decide (l = m) = false from fun e => decide_eq_false fun h => e (by subst h; rfl))
      obtain ⟨⟨x1, x2⟩, ex⟩ : ∃ e, e = l[k] := ⟨_, rfl⟩
      obtain ⟨⟨y1, y2⟩, ey⟩ : ∃ e, e = m[k] := ⟨_, rfl⟩
      rw [← ex] at c0 c1 hyes hno
      rw [← ey] at e0 e1 hyes hno
      clear ex ey hall
      replace c0 : wr.cell? ⟨b1, o1 + k * 2, none⟩ = some (.int .i64 x1) := c0
      replace c1 : wr.cell? ⟨b1, o1 + k * 2 + 1, none⟩ = some (.int .i64 x2) := c1
      replace e0 : wr.cell? ⟨b2, o2 + k * 2, none⟩ = some (.int .i64 y1) := e0
      replace e1 : wr.cell? ⟨b2, o2 + k * 2 + 1, none⟩ = some (.int .i64 y2) := e1
      have d7 : ((k : Nat) : Int) < (m.length : Int) := by omega
      by_cases e : x1 = y1 ∧ x2 = y2
      · obtain ⟨rfl, rfl⟩ := e
        have H := Lib.hid (hyes.out rfl)
        have d4 : (x1 == x1 && x2 == x2) = true := by simp
        clear hyes hno
        go_upto_region 6 with (fail)
        refine wp_region_quiet_lit (by kernel_rfl) (by kernel_rfl) ?_
        repeat (first | go_big_quiet_step (fail) | (go_big_quiet_want; refine quiet_neEd rfl rfl rfl ?_; rw [d4]; go_big_quiet_on; go_simp))
        first | (refine wpQuiet_nil ?_; intro _ hw'; obtain ⟨nq, hw''⟩ := hw'; subst hw'') | intro nq
        go_wp2_with fail
        go_roundw
        case rel => exact ⟨k + 1, by go_num, by omega, H.out, Below.drewN q _⟩
        case measure => simp [intOf]; omega
      · have H := Lib.hid (hno.out (fun h => e (by injection h with h1 h2; exact ⟨h1, h2⟩)))
        have d4 : (x1 == y1 && x2 == y2) = false := by
          cases h1 : x1 == y1 with
          | false => rfl
          | true =>
            cases h2 : x2 == y2 with
            | false => rfl
            | true => exact absurd ⟨beq_iff_eq.1 h1, beq_iff_eq.1 h2⟩ e
        have d5 : (decide (x1 = y1) && decide (x2 = y2)) = false := by simpa using e
        replace e := Lib.hid e
        clear hyes hno
        go_upto_region 6 with (fail)
        refine wp_region_quiet_lit (by kernel_rfl) (by kernel_rfl) ?_
        repeat (first | go_big_quiet_step (fail) | (go_big_quiet_want; refine quiet_neEd rfl rfl rfl ?_; rw [d4]; go_big_quiet_on; go_simp))
        first | (refine wpQuiet_nil ?_; intro _ hw'; obtain ⟨nq, hw''⟩ := hw'; subst hw'') | intro nq
        go_wp2_with fail
        go_ret
        exact ⟨by first | (rw [H.out]; done) | (rw [H.out]; rfl), Below.drewN q _⟩
    · obtain rfl : k = l.length := by omega
      have H := Lib.hid (show decide (l = m) = true from decide_eq_true (by
        have h := hall.out
        rw [List.take_length, hlen.out, List.take_length] at h
        exact h))
      clear hall
      go_wp2_with fail
      go_ret
      exact ⟨by first | (rw [H.out]; done) | (rw [H.out]; rfl), q⟩
set_option maxRecDepth 100000 in
set_option maxHeartbeats 1000000 in
theorem few12_any (w : World) {S : Nat → Prop} {a : Option Addr} {n c : Nat} {E : List Ed} (h : RdL Elt.ed S w (.slice a n c) E) :
    Calls Tryd.prog 21 #[.slice a n c] w fun e w' => e = .returned (.bool (decide (E.length ≤ 12))) ∧ Below w.heap.size w w' := by
  obtain ⟨rfl, _, _⟩ := h.len
  go_enter Tryd.func21, Tryd.ntmps21
  by_cases h1 : E.length ≤ 12
  · have d1 : decide ((E.length : Int) ≤ 12) = true := decide_eq_true (by omega)
    have H := Lib.hid (show decide (E.length ≤ 12) = true from decide_eq_true h1)
    clear h1
    go_wp2_with fail
    go_ret
    exact ⟨by rw [H.out]; rfl, Below.refl _ _⟩
  · have d1 : decide ((E.length : Int) ≤ 12) = false := decide_eq_false (by omega)
    have H := Lib.hid (show decide (E.length ≤ 12) = false from decide_eq_false h1)
    clear h1
    go_wp2_with fail
    go_ret
    exact ⟨by rw [H.out]; rfl, Below.refl _ _⟩
end Go.Proofs.YtpdnehgboafgpaaDoor
namespace Go.Proofs.YtpdnehgboafgpaaDoor
open Go.RowKit Go.Shelf
def placeP (Q : List Lk) (o : Int) (p : Int) : Prop := (∃ i, ∃ h : i < Q.length, p = (i : Int) ∧ Q[i].owner = o ∧ ∀ y ∈ Q.take i, y.owner ≠ o) ∨ (p = -1 ∧ waitsL Q o = false)
theorem placeP.waits {Q : List Lk} {o p : Int} (h : placeP Q o p) : decide (0 ≤ p) = waitsL Q o := by
  rcases h with ⟨i, hi, rfl, h1, _⟩ | ⟨rfl, h1⟩
  · rw [decide_eq_true (by omega)]
    unfold waitsL
    symm
    rw [List.any_eq_true]
    exact ⟨_, List.getElem_mem hi, decide_eq_true h1⟩
  · rw [h1]; rfl
set_option maxRecDepth 100000 in
set_option maxHeartbeats 4000000 in
theorem place_any (w : World) {S : Nat → Prop} {v : Value} {H Q : List Lk} {o : Int} (h : RdLs S w v H Q) :
    Calls Tryd.prog 34 #[v, .int .i64 o] w fun e w' => ∃ p, e = .returned (.int .i64 p) ∧ placeP Q o p ∧ Below w.heap.size w w' := by
  obtain ⟨aH, cH, aQ, cQ, rfl, hH, hQ⟩ := h
  obtain ⟨_, hc2, hm2⟩ := hQ.len
  have hl2 : Q.length ≤ 9223372036854775807 := by unfold maxLen at hm2; omega
  clear hc2 hm2
  obtain ⟨W, hW, q, Bw, hsz⟩ := spBox w 24 [.slice aH H.length cH, .slice aQ Q.length cQ]
  clear hsz
  go_enter Tryd.func34, Tryd.ntmps34
  go_upto_region 1 with (fail)
  rw [show w.alloc (.cells #[.slice aH H.length cH, .slice aQ Q.length cQ] 24) = W from hW.symm]
  clear hW
  go_upto_region 2 with (fail)
  go_loopw [5] (fun iv wr => ∃ (k : Nat), iv = .int .i64 k ∧ k ≤ Q.length ∧ (∀ y ∈ Q.take k, y.owner ≠ o) ∧ Below w.heap.size w wr ∧ BoxN wr w.heap.size 24 [.slice aH H.length cH, .slice aQ Q.length cQ])
    (fun i _ => Q.length - (intOf i).toNat)
  case atStart => exact ⟨0, rfl, Nat.zero_le _, by simp, q, Bw⟩
  case round =>
    clear q Bw
    obtain ⟨k, rfl, hkl, hall, q, Bw⟩ := hrel
    have b1 := Bw.cell (i := 1) rfl
    rcases Nat.lt_or_ge k Q.length with hlt | hge
    · obtain ⟨b, off, A, C, A2, C2, rfl, hb, c0, _⟩ := (hQ.below q).lk k hlt
      have hsn := Lib.hid (List.take_succ_eq_append_getElem hlt)
      have hk := Lib.hid (show ∀ p : Int, p = (k : Int) → Q[k].owner = o → placeP Q o p from fun p h1 h2 => .inl ⟨k, hlt, h1, h2, hall⟩)
      obtain ⟨z, ez⟩ : ∃ z, z = Q[k].owner := ⟨_, rfl⟩
      rw [← ez] at c0 hk
      replace ez := Lib.hid ez
      have d0 : decide ((k : Int) < (Q.length : Int)) = true := decide_eq_true (by omega)
      by_cases h3 : z = o
      · have d3 : (z == o) = true := beq_iff_eq.2 h3
        have hp := hk.out _ rfl h3
        clear hall hk h3 ez hsn
        go_wp2_with fail
        go_ret
        exact ⟨_, rfl, hp, q⟩
      · have d3 : (z == o) = false := beq_eq_false_iff_ne.2 h3
        have hall2 := Lib.hid (show ∀ y ∈ Q.take (k + 1), y.owner ≠ o from fun y hy => by
          rw [hsn.out] at hy
          rcases List.mem_append.1 hy with h | h
          · exact hall y h
          · obtain rfl : y = Q[k] := by simpa using h
            rw [← ez.out]; exact h3)
        clear hall hk h3 ez hsn
        go_wp2_with fail
        go_roundw
        case rel => exact ⟨k + 1, by go_num, by omega, hall2.out, q, Bw⟩
        case measure => simp [intOf]; omega
    · obtain rfl : k = Q.length := by omega
      have d0 : decide ((Q.length : Int) < (Q.length : Int)) = false := decide_eq_false (by omega)
      rw [List.take_length] at hall
      have hp : placeP Q o (-1) := .inr ⟨rfl, waits_no.2 hall⟩
      clear hall
      go_wp2_with fail
      go_ret
      exact ⟨_, rfl, hp, q⟩
end Go.Proofs.YtpdnehgboafgpaaDoor
namespace Go.Proofs.YtpdnehgboafgpaaDoor
open Go.RowKit Go.Shelf
theorem take_all {P : Lk → Prop} {l : List Lk} {k : Nat} (hk : k < l.length) (h : ∀ y ∈ l.take k, P y) (h2 : P l[k]) : ∀ y ∈ l.take (k + 1), P y := by
  intro y hy
  rw [List.take_succ_eq_append_getElem hk] at hy
  rcases List.mem_append.1 hy with h3 | h3
  · exact h y h3
  · obtain rfl : y = l[k] := by simpa using h3
    exact h2
theorem okH_take2 {l : List Lk} {k : Nat} (hk : k < l.length) (h : okH (l.take k)) (h2 : ∀ y ∈ l.take k, clashL l[k] y = false ∧ sameL l[k] y = false) : okH (l.take (k + 1)) := by
  rw [List.take_succ_eq_append_getElem hk]
  unfold okH
  rw [List.pairwise_append]
  refine ⟨h, by simp, fun a ha b hb => ?_⟩
  obtain rfl : b = l[k] := by simpa using hb
  exact h2 a ha
theorem pw_at {H Q : List Lk} {i k : Nat} (hk : k < H.length) (hi : i < H.length) (h : k < i) (ok : okLk H Q) : clashL H[i] H[k] = false ∧ sameL H[i] H[k] = false :=
  List.pairwise_iff_getElem.1 ok.2.2.2.1 k i hk hi h
theorem nodup_take2 {l : List Lk} {k : Nat} (hk : k < l.length) (h : nodup (l.take k)) (h2 : ∀ y ∈ l.take k, y.owner ≠ l[k].owner) : nodup (l.take (k + 1)) := by
  rw [List.take_succ_eq_append_getElem hk]
  unfold nodup
  rw [List.pairwise_append]
  refine ⟨h, by simp, fun a ha b hb => ?_⟩
  obtain rfl : b = l[k] := by simpa using hb
  exact h2 a ha
theorem okQ_of {H Q : List Lk} (hn : nodup Q) (hb : ∀ j (h : j < Q.length), blk Q[j] H (Q.take j) = true) : okQ H Q := fun i hi => ⟨hb i hi, fun y hy => by
  obtain ⟨k, hk, rfl⟩ := List.mem_take_iff_getElem.1 hy
  exact List.pairwise_iff_getElem.1 hn k i (by omega) hi (by omega)⟩
theorem blk_mark {x : Lk} {H Q : List Lk} (hH : ∀ y ∈ H, 0 ≤ y.owner ∧ y.owner < 4) (hQ : ∀ y ∈ Q, 0 ≤ y.owner ∧ y.owner < 4) : match blk x H Q with | true => 0 < (markL (mkF (blkO x (H ++ Q))) 4).length | false => (markL (mkF (blkO x (H ++ Q))) 4).length = 0 := by
  cases h : blk x H Q with
  | true =>
    have : ∃ y, y ∈ H ++ Q ∧ clashL x y = true := by
      rcases blk_iff.1 h with ⟨y, h1, h2⟩ | ⟨y, h1, h2⟩
      · exact ⟨y, List.mem_append_left _ h1, h2⟩
      · exact ⟨y, List.mem_append_right _ h1, h2⟩
    obtain ⟨y, hy, hc⟩ := this
    have ho : 0 ≤ y.owner ∧ y.owner < 4 := by
      rcases List.mem_append.1 hy with h1 | h1
      · exact hH y h1
      · exact hQ y h1
    refine List.length_pos_of_mem (a := y.owner) ?_
    unfold markL
    refine List.mem_map.2 ⟨y.owner.toNat, List.mem_filter.2 ⟨List.mem_range.2 (by omega), ?_⟩, by omega⟩
    unfold mkF blkO
    refine decide_eq_true (List.mem_map.2 ⟨y, List.mem_filter.2 ⟨hy, hc⟩, by omega⟩)
  | false =>
    obtain ⟨h1, h2⟩ := blk_no.1 h
    have e : blkO x (H ++ Q) = [] := by
      unfold blkO
      rw [List.map_eq_nil_iff, List.filter_eq_nil_iff]
      intro y hy
      rcases List.mem_append.1 hy with h3 | h3
      · rw [h1 y h3]; simp
      · rw [h2 y h3]; simp
    rw [e]
    have : markL (mkF []) 4 = [] := by decide
    simp [this]
set_option maxRecDepth 100000 in
set_option maxHeartbeats 4000000 in
theorem refChk_any (w : World) {S : Nat → Prop} {v : Value} {H Q : List Lk} (h : RdLs S w v H Q) (hnH : H.length ≤ 1000000) (hnQ : Q.length ≤ 1000000) :
    Calls Tryd.prog 15 #[v] w fun e w' => e = .returned (.bool (decide (okLk H Q))) ∧ Below w.heap.size w w' := by
  obtain ⟨aH, cH, aQ, cQ, rfl, hH, hQ⟩ := h
  obtain ⟨W, hW, q, Bl, hsz⟩ := spBox w 24 [.slice aH H.length cH, .slice aQ Q.length cQ]
  clear hsz
  go_enter Tryd.func15, Tryd.ntmps15
  go_upto_region 1 with (fail)
  rw [show w.alloc (.cells #[.slice aH H.length cH, .slice aQ Q.length cQ] 24) = W from hW.symm]
  clear hW
  have b0 := Bl.cell (i := 0) rfl
  have b1 := Bl.cell (i := 1) rfl
  rcases Nat.lt_or_ge 40 (H.length + Q.length) with h1 | h1
  · have d1 : decide ((40 : Int) < (H.length : Int) + (Q.length : Int)) = true := decide_eq_true (by omega)
    have HK := Lib.hid (show decide (okLk H Q) = false from decide_eq_false fun h => by have := h.1; omega)
    go_wp2_with fail
    go_ret
    exact ⟨by rw [HK.out]; rfl, q⟩
  have d1 : decide ((40 : Int) < (H.length : Int) + (Q.length : Int)) = false := decide_eq_false (by omega)
  go_upto_region 4 with (fail)
  clear b0 b1 d1
  go_loopw [3] (fun iv wr => ∃ (i : Nat), iv = .int .i64 (i : Int) ∧ i ≤ H.length ∧ (∀ y ∈ H.take i, fine y = true) ∧ okH (H.take i) ∧ BoxN wr w.heap.size 24 [.slice aH H.length cH, .slice aQ Q.length cQ] ∧ Below w.heap.size w wr) (fun iv _ => H.length - (intOf iv).toNat)
  case atStart => exact ⟨0, rfl, Nat.zero_le _, by simp, by simp [okH], Bl, q⟩
  case round =>
  clear Bl q
  obtain ⟨i, rfl, hil, hf0, ho0, Bl, q⟩ := hrel
  replace hf0 := Lib.hid hf0
  replace ho0 := Lib.hid ho0
  rcases Nat.lt_or_ge i H.length with hlt | hge
  · obtain ⟨b, off, xA, xB, xC, xD, eL, _, c0, c1, c2, c3, c4, c5, c6, k1, k2, k3⟩ := (hH.below q).lk i hlt
    obtain ⟨x, ex⟩ : ∃ y, y = H[i] := ⟨_, rfl⟩
    rw [← ex] at c0 c1 c2 c3 c4 c5 c6 k1 k2 k3
    replace ex := Lib.hid ex
    have rx : RdLk (fun _ => True) wr (.agg #[.int .i64 x.owner, .bool x.whole, .int .i64 x.span.table, .slice xA x.span.lo.length xB, .slice xC x.span.hi.length xD, .bool x.span.isOpen, .int .i64 x.mode]) x := ⟨_, _, _, _, rfl, k1.weak fun _ _ => trivial, k2.weak fun _ _ => trivial, k3⟩
    clear k1 k2 k3
    subst eL
    have d0 : decide ((i : Int) < (H.length : Int)) = true := decide_eq_true (by omega)
    have b0 := Bl.cell (i := 0) rfl
    have b1 := Bl.cell (i := 1) rfl
    go_upto_region 7 with (first | (refine wpList_boxNew (vs := [.int .i64 0, .bool false, .int .i64 0, .slice none 0 0, .slice none 0 0, .bool false, .int .i64 0]) (by kernel_rfl) rfl rfl ?_; intro wa hba hBa) | (refine wpList_boxStore (us := [.int .i64 x.owner, .bool x.whole, .int .i64 x.span.table, .slice xA x.span.lo.length xB, .slice xC x.span.hi.length xD, .bool x.span.isOpen, .int .i64 x.mode]) (by kernel_rfl) rfl rfl rfl rfl rfl rfl hBa rfl ?_; intro wb hgw Bx) | fail)
    try go_simp
    have hbw := hba.grown hgw hba.size fun k hk => by injection hk with hk; omega
    replace Bl := Bl.below hbw Bl.lt
    replace rx := rx.below hbw
    replace q := q.trans (hbw.mono q.size)
    clear hbw hgw hba hBa
    clear b0 b1 d0 c0 c1 c2 c3 c4 c5 c6
    have x0 := Bx.cell (i := 0) rfl
    have x1 := Bx.cell (i := 1) rfl
    have x2 := Bx.cell (i := 2) rfl
    have x3 := Bx.cell (i := 3) rfl
    have x4 := Bx.cell (i := 4) rfl
    have x5 := Bx.cell (i := 5) rfl
    have x6 := Bx.cell (i := 6) rfl
    have hcl := rMay_any _ rx
    go_wp2_with fail
    refine hcl.mono ?_
    rintro e wc ⟨rfl, hb⟩
    clear hcl x0 x1 x2 x3 x4 x5 x6
    replace Bl := Bl.below hb Bl.lt
    replace rx := rx.below hb
    replace Bx := Bx.below hb Bx.lt
    replace q := q.trans (hb.mono q.size)
    clear hb
    cases hfx : fine x with
    | false =>
      have HK := Lib.hid (show decide (okLk H Q) = false from decide_eq_false fun h => by have := h.2.1 _ (List.getElem_mem hlt); rw [← ex.out, hfx] at this; cases this)
      clear hfx
      go_wp2_with fail
      go_ret
      exact ⟨by rw [HK.out]; rfl, q⟩
    | true =>
      replace hfx := Lib.hid hfx
      obtain ⟨bx, hbx⟩ : ∃ b, b = wr.heap.size := ⟨_, rfl⟩
      rw [← hbx] at Bx
      go_upto_region 11 with (fail)
      rw [← hbx]
      clear hbx
      go_loopw [6] (fun kv wr => ∃ (k : Nat), kv = .int .i64 (k : Int) ∧ k ≤ i ∧ (∀ y ∈ H.take k, clashL x y = false ∧ sameL x y = false) ∧ BoxN wr w.heap.size 24 [.slice (some ⟨b, off, none⟩) H.length cH, .slice aQ Q.length cQ] ∧ BoxN wr bx 29 [.int .i64 x.owner, .bool x.whole, .int .i64 x.span.table, .slice xA x.span.lo.length xB, .slice xC x.span.hi.length xD, .bool x.span.isOpen, .int .i64 x.mode] ∧ RdLk (fun _ => True) wr (.agg #[.int .i64 x.owner, .bool x.whole, .int .i64 x.span.table, .slice xA x.span.lo.length xB, .slice xC x.span.hi.length xD, .bool x.span.isOpen, .int .i64 x.mode]) x ∧ Below w.heap.size w wr) (fun iv _ => i - (intOf iv).toNat)
      case atStart => exact ⟨0, rfl, Nat.zero_le _, by simp, Bl, Bx, rx, q⟩
      case round =>
      clear Bl Bx rx q
      obtain ⟨k, rfl, hki, hall, Bl, Bx, rx, q⟩ := hrel
      replace hall := Lib.hid hall
      rcases Nat.lt_or_ge k i with hlt2 | hge2
      · have hkH : k < H.length := by omega
        obtain ⟨b2, o2, yA, yB, yC, yD, eL, _, g0, g1, g2, g3, g4, g5, g6, k1, k2, k3⟩ := (hH.below q).lk k hkH
        obtain ⟨y, ey⟩ : ∃ y, y = H[k] := ⟨_, rfl⟩
        rw [← ey] at g0 g1 g2 g3 g4 g5 g6 k1 k2 k3
        replace ey := Lib.hid ey
        have ry : RdLk (fun _ => True) wr (.agg #[.int .i64 y.owner, .bool y.whole, .int .i64 y.span.table, .slice yA y.span.lo.length yB, .slice yC y.span.hi.length yD, .bool y.span.isOpen, .int .i64 y.mode]) y := ⟨_, _, _, _, rfl, k1.weak fun _ _ => trivial, k2.weak fun _ _ => trivial, k3⟩
        clear k1 k2 k3
        injection eL with eL
        injection eL with f1 f2 _
        subst f1 f2
        have d0 : decide ((k : Int) < (i : Int)) = true := decide_eq_true (by omega)
        have b0 := Bl.cell (i := 0) rfl
        have b1 := Bl.cell (i := 1) rfl
        go_upto_region 14 with (first | (refine wpList_boxNew (vs := [.int .i64 0, .bool false, .int .i64 0, .slice none 0 0, .slice none 0 0, .bool false, .int .i64 0]) (by kernel_rfl) rfl rfl ?_; intro wa hba hBa) | (refine wpList_boxStore (us := [.int .i64 y.owner, .bool y.whole, .int .i64 y.span.table, .slice yA y.span.lo.length yB, .slice yC y.span.hi.length yD, .bool y.span.isOpen, .int .i64 y.mode]) (by kernel_rfl) rfl rfl rfl rfl rfl rfl hBa rfl ?_; intro wy hgw By) | fail)
        try go_simp
        have hbw := hba.grown hgw hba.size fun k hk => by injection hk with hk; omega
        replace Bl := Bl.below hbw Bl.lt
        replace Bx := Bx.below hbw Bx.lt
        replace rx := rx.below hbw
        replace ry := ry.below hbw
        replace q := q.trans (hbw.mono q.size)
        clear hbw hgw hba hBa
        clear b0 b1 d0 g0 g1 g2 g3 g4 g5 g6
        have x0 := Bx.cell (i := 0) rfl
        have x1 := Bx.cell (i := 1) rfl
        have x2 := Bx.cell (i := 2) rfl
        have x3 := Bx.cell (i := 3) rfl
        have x4 := Bx.cell (i := 4) rfl
        have x5 := Bx.cell (i := 5) rfl
        have x6 := Bx.cell (i := 6) rfl
        have y0 := By.cell (i := 0) rfl
        have y1 := By.cell (i := 1) rfl
        have y2 := By.cell (i := 2) rfl
        have y3 := By.cell (i := 3) rfl
        have y4 := By.cell (i := 4) rfl
        have y5 := By.cell (i := 5) rfl
        have y6 := By.cell (i := 6) rfl
        have hcl := rClash_any _ rx ry
        go_wp2_with fail
        refine hcl.mono ?_
        rintro e wc2 ⟨rfl, hb⟩
        clear hcl x0 x1 x2 x3 x4 x5 x6 y0 y1 y2 y3 y4 y5 y6
        replace Bl := Bl.below hb Bl.lt
        replace Bx := Bx.below hb Bx.lt
        replace rx := rx.below hb
        replace ry := ry.below hb
        replace By := By.below hb By.lt
        replace q := q.trans (hb.mono q.size)
        clear hb
        have hpw := pw_at (Q := Q) hkH hlt hlt2
        rw [← ex.out, ← ey.out] at hpw
        replace hpw := Lib.hid hpw
        have hsn := Lib.hid (take_all (P := fun y => clashL x y = false ∧ sameL x y = false) hkH hall.out)
        clear hall
        have x0 := Bx.cell (i := 0) rfl
        have x1 := Bx.cell (i := 1) rfl
        have x2 := Bx.cell (i := 2) rfl
        have x3 := Bx.cell (i := 3) rfl
        have x4 := Bx.cell (i := 4) rfl
        have x5 := Bx.cell (i := 5) rfl
        have x6 := Bx.cell (i := 6) rfl
        have y0 := By.cell (i := 0) rfl
        have y1 := By.cell (i := 1) rfl
        have y2 := By.cell (i := 2) rfl
        have y3 := By.cell (i := 3) rfl
        have y4 := By.cell (i := 4) rfl
        have y5 := By.cell (i := 5) rfl
        have y6 := By.cell (i := 6) rfl
        cases hcl : clashL x y with
        | true =>
          have HK := Lib.hid (show decide (okLk H Q) = false from decide_eq_false fun h => by have := (hpw.out h).1; rw [hcl] at this; cases this)
          clear hcl
          go_wp2_with fail
          go_ret
          exact ⟨by rw [HK.out]; rfl, q⟩
        | false =>
          replace hcl := Lib.hid hcl
          rcases Bool.eq_false_or_eq_true x.whole with hxw | hxw
          · rw [hxw] at x1
            replace hxw := Lib.hid hxw
            rcases Bool.eq_false_or_eq_true y.whole with hyw | hyw
            · rw [hyw] at y1
              replace hyw := Lib.hid hyw
              by_cases ho : x.owner = y.owner
              · by_cases ht : x.span.table = y.span.table
                · have hs := Lib.hid (show sameL x y = true from same_iff.2 ⟨ho.symm, hxw.out, hyw.out, ht⟩)
                  have e1 : (x.owner == y.owner) = true := beq_iff_eq.2 ho
                  have e2 : (x.span.table == y.span.table) = true := beq_iff_eq.2 ht
                  have HK := Lib.hid (show decide (okLk H Q) = false from decide_eq_false fun h => by have := (hpw.out h).2; rw [hs.out] at this; cases this)
                  clear ho ht
                  go_wp2_with fail
                  go_ret
                  exact ⟨by rw [HK.out]; rfl, q⟩
                · have hs := Lib.hid (show sameL x y = false by unfold sameL; simp [ht])
                  have e1 : (x.owner == y.owner) = true := beq_iff_eq.2 ho
                  have e2 : (x.span.table == y.span.table) = false := beq_eq_false_iff_ne.2 ht
                  clear ho ht
                  have hall2 := Lib.hid (hsn.out (by rw [← ey.out]; exact ⟨hcl.out, hs.out⟩))
                  clear hsn hpw
                  go_wp2_with fail
                  go_roundw
                  case rel => exact ⟨k + 1, by go_num, by omega, hall2.out, Bl, Bx, rx, q⟩
                  case measure => simp [intOf]; omega
              · have hs := Lib.hid (show sameL x y = false by unfold sameL; simp [Ne.symm ho])
                have e1 : (x.owner == y.owner) = false := beq_eq_false_iff_ne.2 ho
                clear ho
                have hall2 := Lib.hid (hsn.out (by rw [← ey.out]; exact ⟨hcl.out, hs.out⟩))
                clear hsn hpw
                go_wp2_with fail
                go_roundw
                case rel => exact ⟨k + 1, by go_num, by omega, hall2.out, Bl, Bx, rx, q⟩
                case measure => simp [intOf]; omega
            · have hs := Lib.hid (show sameL x y = false by unfold sameL; rw [hyw]; simp)
              rw [hyw] at y1
              clear hyw
              have hall2 := Lib.hid (hsn.out (by rw [← ey.out]; exact ⟨hcl.out, hs.out⟩))
              clear hsn hpw
              go_wp2_with fail
              go_roundw
              case rel => exact ⟨k + 1, by go_num, by omega, hall2.out, Bl, Bx, rx, q⟩
              case measure => simp [intOf]; omega
          · have hs := Lib.hid (show sameL x y = false by unfold sameL; rw [hxw]; simp)
            rw [hxw] at x1
            clear hxw
            have hall2 := Lib.hid (hsn.out (by rw [← ey.out]; exact ⟨hcl.out, hs.out⟩))
            clear hsn hpw
            go_wp2_with fail
            go_roundw
            case rel => exact ⟨k + 1, by go_num, by omega, hall2.out, Bl, Bx, rx, q⟩
            case measure => simp [intOf]; omega
      · obtain rfl : k = i := by omega
        have d0 : decide ((k : Int) < (k : Int)) = false := decide_eq_false (by omega)
        have hf1 := Lib.hid (take_all (P := fun y => fine y = true) hlt hf0.out (by rw [← ex.out]; exact hfx.out))
        have ho1 := Lib.hid (okH_take2 hlt ho0.out (by rw [← ex.out]; exact hall.out))
        clear hf0 ho0 hall
        go_wp2_with fail
        go_roundw
        case rel => exact ⟨k + 1, by go_num, by omega, hf1.out, ho1.out, Bl, q⟩
        case measure => simp [intOf]; omega
  · obtain rfl : i = H.length := by omega
    rw [List.take_length] at hf0 ho0
    have d0 : decide ((H.length : Int) < (H.length : Int)) = false := decide_eq_false (by omega)
    have b0 := Bl.cell (i := 0) rfl
    have b1 := Bl.cell (i := 1) rfl
    go_upto_region 18 with (fail)
    clear d0 b0 b1
    go_loopw [9] (fun iv wr => ∃ (i : Nat), iv = .int .i64 (i : Int) ∧ i ≤ Q.length ∧ (∀ y ∈ Q.take i, fine y = true) ∧ nodup (Q.take i) ∧ BoxN wr w.heap.size 24 [.slice aH H.length cH, .slice aQ Q.length cQ] ∧ Below w.heap.size w wr) (fun iv _ => Q.length - (intOf iv).toNat)
    case atStart => exact ⟨0, rfl, Nat.zero_le _, by simp, by simp [nodup], Bl, q⟩
    case round =>
    clear Bl q
    obtain ⟨i, rfl, hil, hg0, hn0, Bl, q⟩ := hrel
    replace hg0 := Lib.hid hg0
    replace hn0 := Lib.hid hn0
    rcases Nat.lt_or_ge i Q.length with hlt | hge
    · obtain ⟨b, off, xA, xB, xC, xD, eL, _, c0, c1, c2, c3, c4, c5, c6, k1, k2, k3⟩ := (hQ.below q).lk i hlt
      obtain ⟨x, ex⟩ : ∃ y, y = Q[i] := ⟨_, rfl⟩
      rw [← ex] at c0 c1 c2 c3 c4 c5 c6 k1 k2 k3
      replace ex := Lib.hid ex
      have rx : RdLk (fun _ => True) wr (.agg #[.int .i64 x.owner, .bool x.whole, .int .i64 x.span.table, .slice xA x.span.lo.length xB, .slice xC x.span.hi.length xD, .bool x.span.isOpen, .int .i64 x.mode]) x := ⟨_, _, _, _, rfl, k1.weak fun _ _ => trivial, k2.weak fun _ _ => trivial, k3⟩
      clear k1 k2 k3
      subst eL
      have d0 : decide ((i : Int) < (Q.length : Int)) = true := decide_eq_true (by omega)
      have b0 := Bl.cell (i := 0) rfl
      have b1 := Bl.cell (i := 1) rfl
      have hcl := rMay_any _ rx
      go_wp2_with fail
      refine hcl.mono ?_
      rintro e wc ⟨rfl, hb⟩
      clear hcl b0 b1 d0 c0 c1 c2 c3 c4 c5 c6
      replace Bl := Bl.below hb Bl.lt
      replace rx := rx.below hb
      replace q := q.trans (hb.mono q.size)
      clear hb
      cases hfx : fine x with
      | false =>
        have HK := Lib.hid (show decide (okLk H Q) = false from decide_eq_false fun h => by have := h.2.2.1 _ (List.getElem_mem hlt); rw [← ex.out, hfx] at this; cases this)
        clear hfx
        go_wp2_with fail
        go_ret
        exact ⟨by rw [HK.out]; rfl, q⟩
      | true =>
        replace hfx := Lib.hid hfx
        go_upto_region 24 with (fail)
        go_loopw [11] (fun kv wr => ∃ (k : Nat), kv = .int .i64 (k : Int) ∧ k ≤ i ∧ (∀ y ∈ Q.take k, y.owner ≠ x.owner) ∧ BoxN wr w.heap.size 24 [.slice aH H.length cH, .slice (some ⟨b, off, none⟩) Q.length cQ] ∧ Below w.heap.size w wr) (fun iv _ => i - (intOf iv).toNat)
        case atStart => exact ⟨0, rfl, Nat.zero_le _, by simp, Bl, q⟩
        case round =>
        clear Bl q rx
        obtain ⟨k, rfl, hki, hall, Bl, q⟩ := hrel
        replace hall := Lib.hid hall
        rcases Nat.lt_or_ge k i with hlt2 | hge2
        · have hkQ : k < Q.length := by omega
          obtain ⟨b2, o2, yA, yB, yC, yD, eL, _, g0, g1, g2, g3, g4, g5, g6, k1, k2, k3⟩ := (hQ.below q).lk k hkQ
          obtain ⟨y, ey⟩ : ∃ y, y = Q[k] := ⟨_, rfl⟩
          rw [← ey] at g0 g1 g2 g3 g4 g5 g6 k1 k2 k3
          replace ey := Lib.hid ey
          have ry : RdLk (fun _ => True) wr (.agg #[.int .i64 y.owner, .bool y.whole, .int .i64 y.span.table, .slice yA y.span.lo.length yB, .slice yC y.span.hi.length yD, .bool y.span.isOpen, .int .i64 y.mode]) y := ⟨_, _, _, _, rfl, k1.weak fun _ _ => trivial, k2.weak fun _ _ => trivial, k3⟩
          clear k1 k2 k3
          injection eL with eL
          injection eL with f1 f2 _
          subst f1 f2
          obtain ⟨b3, o3, _, _, _, _, eL3, _, c0, _⟩ := (hQ.below q).lk i hlt
          injection eL3 with eL3
          injection eL3 with f1 f2 _
          subst f1 f2
          rw [← ex.out] at c0
          have d0 : decide ((k : Int) < (i : Int)) = true := decide_eq_true (by omega)
          have b0 := Bl.cell (i := 0) rfl
          have b1 := Bl.cell (i := 1) rfl
          clear ry g1 g2 g3 g4 g5 g6
          have hpo := Lib.hid (show okLk H Q → y.owner ≠ x.owner from fun h => by
              rw [ey.out, ex.out]; exact (h.2.2.2.2 i hlt).2 _ (List.mem_take_iff_getElem.2 ⟨k, by omega, rfl⟩))
          have hsn := Lib.hid (take_all (P := fun y => y.owner ≠ x.owner) hkQ hall.out)
          clear hall
          obtain ⟨yo, eyo⟩ : ∃ z, z = y.owner := ⟨_, rfl⟩
          obtain ⟨xo, exo⟩ : ∃ z, z = x.owner := ⟨_, rfl⟩
          rw [← eyo] at g0 hpo
          rw [← exo] at c0 hpo hsn
          replace eyo := Lib.hid eyo
          replace exo := Lib.hid exo
          by_cases ho : yo = xo
          · have e1 : (yo == xo) = true := beq_iff_eq.2 ho
            have HK := Lib.hid (show decide (okLk H Q) = false from decide_eq_false fun h => hpo.out h ho)
            clear ho hpo hsn
            go_upto_region 26 with (fail)
            go_quiet (fail)
            go_wp2_with fail
            go_ret
            exact ⟨by rw [HK.out]; rfl, Below.drewN q _⟩
          · have e1 : (yo == xo) = false := beq_eq_false_iff_ne.2 ho
            have hall2 := Lib.hid (hsn.out (by rw [← ey.out, ← eyo.out]; exact ho))
            clear ho hpo hsn
            go_upto_region 26 with (fail)
            go_quiet (fail)
            go_wp2_with fail
            go_roundw
            case rel => exact ⟨k + 1, by go_num, by omega, by rw [← exo.out]; exact hall2.out, Bl, Below.drewN q _⟩
            case measure => simp [intOf]; omega
        · obtain rfl : k = i := by omega
          have d0 : decide ((k : Int) < (k : Int)) = false := decide_eq_false (by omega)
          have hf1 := Lib.hid (take_all (P := fun y => fine y = true) hlt hg0.out (by rw [← ex.out]; exact hfx.out))
          have ho1 := Lib.hid (nodup_take2 hlt hn0.out (by rw [← ex.out]; exact hall.out))
          clear hg0 hn0 hall
          go_wp2_with fail
          go_roundw
          case rel => exact ⟨k + 1, by go_num, by omega, hf1.out, ho1.out, Bl, q⟩
          case measure => simp [intOf]; omega
    · obtain rfl : i = Q.length := by omega
      rw [List.take_length] at hg0 hn0
      have d0 : decide ((Q.length : Int) < (Q.length : Int)) = false := decide_eq_false (by omega)
      have hHO : ∀ y ∈ H, 0 ≤ y.owner ∧ y.owner < 4 := fun y hy => (fine_iff.1 (hf0.out y hy)).1
      have hQO : ∀ y ∈ Q, 0 ≤ y.owner ∧ y.owner < 4 := fun y hy => (fine_iff.1 (hg0.out y hy)).1
      have b0 := Bl.cell (i := 0) rfl
      have b1 := Bl.cell (i := 1) rfl
      go_upto_region 29 with (fail)
      clear d0 b0 b1
      go_loopw [12] (fun iv wr => ∃ (i : Nat), iv = .int .i64 (i : Int) ∧ i ≤ Q.length ∧ (∀ j (h : j < Q.length), j < i → blk Q[j] H (Q.take j) = true) ∧ BoxN wr w.heap.size 24 [.slice aH H.length cH, .slice aQ Q.length cQ] ∧ Below w.heap.size w wr) (fun iv _ => Q.length - (intOf iv).toNat)
      case atStart => exact ⟨0, rfl, Nat.zero_le _, fun j _ h => by omega, Bl, q⟩
      case round =>
      clear Bl q
      obtain ⟨i, rfl, hil, hb0, Bl, q⟩ := hrel
      replace hb0 := Lib.hid hb0
      rcases Nat.lt_or_ge i Q.length with hlt | hge
      · have d0 : decide ((i : Int) < (Q.length : Int)) = true := decide_eq_true (by omega)
        have b0 := Bl.cell (i := 0) rfl
        have b1 := Bl.cell (i := 1) rfl
        have hcl := refBlk_any wr (v := .agg #[.slice aH H.length cH, .slice aQ Q.length cQ]) (S := S) ⟨aH, cH, aQ, cQ, rfl, hH.below q, hQ.below q⟩ hlt hHO hQO
        have hbm := Lib.hid (blk_mark (x := Q[i]) hHO (fun y hy => hQO y (List.mem_of_mem_take hy)) (Q := Q.take i))
        have hbo := Lib.hid (show okLk H Q → blk Q[i] H (Q.take i) = true from fun h => (h.2.2.2.2 i hlt).1)
        have hbn := Lib.hid (show blk Q[i] H (Q.take i) = true → ∀ j (h : j < Q.length), j < i + 1 → blk Q[j] H (Q.take j) = true from fun h j hj hji => by
            rcases Nat.lt_or_ge j i with h1 | h1
            · exact hb0.out j hj h1
            · obtain rfl : j = i := by omega
              exact h)
        obtain ⟨bb, ebb⟩ : ∃ b, b = blk Q[i] H (Q.take i) := ⟨_, rfl⟩
        rw [← ebb] at hbm hbo hbn
        clear ebb hb0
        obtain ⟨f, ef⟩ : ∃ f, f = mkF (blkO Q[i] (H ++ Q.take i)) := ⟨_, rfl⟩
        rw [← ef] at hcl hbm
        clear ef
        go_wp2_with fail
        refine hcl.mono ?_
        rintro e wc ⟨rfl, hb⟩
        clear hcl b0 b1 d0
        replace Bl := Bl.below hb Bl.lt
        replace q := q.trans (hb.mono q.size)
        clear hb
        have hcl := list_any wc f
        obtain ⟨ml, eml⟩ : ∃ l, l = markL f 4 := ⟨_, rfl⟩
        rw [← eml] at hbm hcl
        clear eml
        go_wp2_with fail
        refine hcl.mono ?_
        rintro e wd ⟨ad, cd, rfl, _, hb⟩
        clear hcl
        replace Bl := Bl.below hb Bl.lt
        replace q := q.trans (hb.mono q.size)
        clear hb
        cases bb with
        | false =>
          have hz : ml.length = 0 := hbm.out
          rw [hz]
          clear hbm hbn hz
          have HK := Lib.hid (show decide (okLk H Q) = false from decide_eq_false fun h => by have := hbo.out h; cases this)
          clear hbo
          go_wp2_with fail
          go_ret
          exact ⟨by rw [HK.out]; rfl, q⟩
        | true =>
          have hz : ((ml.length : Int) == 0) = false := beq_eq_false_iff_ne.2 (by have := hbm.out; omega)
          have hb1 := Lib.hid (hbn.out rfl)
          clear hbm hbo hbn
          go_wp2_with fail
          go_roundw
          case rel => exact ⟨i + 1, by go_num, by omega, hb1.out, Bl, q⟩
          case measure => simp [intOf]; omega
      · obtain rfl : i = Q.length := by omega
        have d0 : decide ((Q.length : Int) < (Q.length : Int)) = false := decide_eq_false (by omega)
        have HK := Lib.hid (show decide (okLk H Q) = true from decide_eq_true ⟨by omega, hf0.out, hg0.out, ho0.out, okQ_of hn0.out fun j hj => hb0.out j hj hj⟩)
        have b0 := Bl.cell (i := 0) rfl
        have b1 := Bl.cell (i := 1) rfl
        clear hf0 hg0 ho0 hn0 hb0 hHO hQO
        go_wp2_with fail
        go_ret
        exact ⟨by rw [HK.out]; rfl, q⟩
end Go.Proofs.YtpdnehgboafgpaaDoor
namespace Go.Proofs.YtpdnehgboafgpaaDoor
open Go.RowKit Go.Shelf
theorem lsS2 : SgP Tryd.prog 24 2 := ⟨⟨_, Tryd.underlying24⟩, by kernel_rfl⟩
theorem placeP.uniq {Q : List Lk} {o p p' : Int} (h : placeP Q o p) (h1 : placeP Q o p') : p = p' := by
  rcases h with ⟨i, hi, rfl, e1, n1⟩ | ⟨rfl, hw⟩ <;> rcases h1 with ⟨j, hj, rfl, e2, n2⟩ | ⟨rfl, hw2⟩
  · rcases Nat.lt_trichotomy i j with h | h | h
    · exact absurd e1 (n2 Q[i] (List.mem_take_iff_getElem.2 ⟨i, by omega, rfl⟩))
    · rw [h]
    · exact absurd e2 (n1 Q[j] (List.mem_take_iff_getElem.2 ⟨j, by omega, rfl⟩))
  · exact absurd e1 (waits_no.1 hw2 _ (List.getElem_mem hi))
  · exact absurd e2 (waits_no.1 hw _ (List.getElem_mem hj))
  · rfl
theorem blkO_own {x : Lk} {H Q : List Lk} (hH : ∀ y ∈ H, 0 ≤ y.owner ∧ y.owner < 4) (hQ : ∀ y ∈ Q, 0 ≤ y.owner ∧ y.owner < 4) : ∀ z ∈ blkO x (H ++ Q), 0 ≤ z ∧ z < 4 := by
  intro z hz
  unfold blkO at hz
  obtain ⟨y, hy, rfl⟩ := List.mem_map.1 hz
  rcases List.mem_append.1 (List.mem_filter.1 hy).1 with h | h
  · exact hH y h
  · exact hQ y h
def sgVo (B : Nat) (l : List Int) : SG := ⟨fun w v => ∃ a c, v = .slice a l.length c ∧ OwnL Elt.int 3 B B w (.slice a l.length c) l, fun _ _ _ ⟨a, c, e, h⟩ hb => ⟨a, c, e, h.below hb⟩⟩
set_option maxRecDepth 100000 in
set_option maxHeartbeats 4000000 in
theorem refBlockers_any (w : World) {S : Nat → Prop} {v : Value} {H Q : List Lk} {o : Int} (h : RdLs S w v H Q) (hnH : H.length ≤ 1000000) (hnQ : Q.length ≤ 1000000) :
    Calls Tryd.prog 13 #[v, .int .i64 o] w fun e w' => ∃ a c, e = .returned (.slice a (bloL H Q o).length c) ∧ OwnL Elt.int 3 w.heap.size w.heap.size w' (.slice a (bloL H Q o).length c) (bloL H Q o) ∧ Below w.heap.size w w' := by
  have hfull := h
  obtain ⟨aH, cH, aQ, cQ, rfl, hH, hQ⟩ := h
  have hl2 : Q.length ≤ 9223372036854775807 := by omega
  clear hH hQ
  obtain ⟨W, hW, q, Bl, hsz⟩ := spBox w 24 [.slice aH H.length cH, .slice aQ Q.length cQ]
  have hsz1 : w.heap.size ≤ W.heap.size := q.size
  clear hsz
  go_enter Tryd.func13, Tryd.ntmps13
  go_upto_region 1 with (fail)
  rw [show w.alloc (.cells #[.slice aH H.length cH, .slice aQ Q.length cQ] 24) = W from hW.symm]
  clear hW
  have b0 := Bl.cell (i := 0) rfl
  have b1 := Bl.cell (i := 1) rfl
  have hcl := refChk_any W (hfull.below q) hnH hnQ
  go_wp2_with fail
  refine hcl.mono ?_
  rintro e w1 ⟨rfl, hb⟩
  clear hcl b0 b1
  replace Bl := Bl.below hb Bl.lt
  replace q := q.trans (hb.mono q.size)
  clear hb
  by_cases hok : okLk H Q
  · rw [decide_eq_true hok]
    have b0 := Bl.cell (i := 0) rfl
    have b1 := Bl.cell (i := 1) rfl
    have hcl := place_any w1 (hfull.below q) (o := o)
    go_wp2_with fail
    refine hcl.mono ?_
    rintro e w2 ⟨p, rfl, hp, hb⟩
    clear hcl b0 b1
    replace Bl := Bl.below hb Bl.lt
    replace q := q.trans (hb.mono q.size)
    clear hb
    rcases id hp with ⟨i, hi, rfl, hio, hbe⟩ | ⟨rfl, hw⟩
    · have d1 : decide ((i : Int) < 0) = false := decide_eq_false (by omega)
      have hHO : ∀ y ∈ H, 0 ≤ y.owner ∧ y.owner < 4 := fun y hy => (fine_iff.1 (hok.2.1 y hy)).1
      have hQO : ∀ y ∈ Q, 0 ≤ y.owner ∧ y.owner < 4 := fun y hy => (fine_iff.1 (hok.2.2.1 y hy)).1
      have hbo : bloL H Q o = markL (mkF (blkO Q[i] (H ++ Q.take i))) 4 := (blo_of (.inl ⟨hok, i, hi, hio, hbe, rfl⟩)).symm.trans (rise_mark fun z hz => blkO_own hHO (fun y hy => hQO y (List.mem_of_mem_take hy)) z hz)
      have hrb := fun (V : World) (hV : Below w2.heap.size w2 V) => refBlk_any V (S := S) (v := .agg #[.slice aH H.length cH, .slice aQ Q.length cQ]) ((hfull.below q).below hV) hi hHO hQO
      obtain ⟨f, ef⟩ : ∃ f, f = mkF (blkO Q[i] (H ++ Q.take i)) := ⟨_, rfl⟩
      rw [← ef] at hrb hbo
      clear ef hio hbe hHO hQO
      replace hbo := Lib.hid hbo
      replace hok := Lib.hid hok
      have b0 := Bl.cell (i := 0) rfl
      have b1 := Bl.cell (i := 1) rfl
      go_upto_region 4 with (fail)
      clear d1 b0 b1
      have eP : ∀ args w, (callFunc 34 args).run Tryd.prog w = .ok (.enter 34 args) w := enters_of Tryd.func34 (by kernel_rfl) rfl
      have eB : ∀ args w, (callFunc 36 args).run Tryd.prog w = .ok (.enter 36 args) w := enters_of Tryd.func36 (by kernel_rfl) rfl
      have eI : ∀ args w, (callFunc 35 args).run Tryd.prog w = .ok (.enter 35 args) w := enters_of Tryd.func35 (by kernel_rfl) rfl
      refine wp_region_gsa (by kernel_rfl) (by kernel_rfl) [sgEq (.agg #[.slice aH H.length cH, .slice aQ Q.length cQ]), sgEq (.agg #[.slice aH H.length cH, .slice aQ Q.length cQ]), sgEq (.int .i64 o), sgEq (.int .i64 (i : Nat)), sgEq (.agg #[.bool (f 0), .bool (f 1), .bool (f 2), .bool (f 3)]), sgVo w.heap.size (markL f 4), sgVo w.heap.size (markL f 4)]
        ⟨?o0, ?o1, ?o2, ?o3, ?o4, ?o5, ?o6, trivial⟩ ?fin
      case o0 =>
        refine GdOp.plain rfl (fun A vs w' hF hT hb hd => ?_)
        have e1 : A.eval (.tmp 2) = .pointer (some ⟨w.heap.size, 0, none⟩) := hF 2 rfl
        exact wp_loadU (us := [.slice aH H.length cH, .slice aQ Q.length cQ]) lsS2 rfl e1 (fun j u hj => by rw [Nat.zero_add]; exact (Bl.below hb Bl.lt).cell hj) ⟨_, rfl, rfl, Below.refl _ _⟩
      case o1 =>
        refine GdOp.plain rfl (fun A vs w' hF hT hb hd => ?_)
        have e1 : A.eval (.tmp 2) = .pointer (some ⟨w.heap.size, 0, none⟩) := hF 2 rfl
        exact wp_loadU (us := [.slice aH H.length cH, .slice aQ Q.length cQ]) lsS2 rfl e1 (fun j u hj => by rw [Nat.zero_add]; exact (Bl.below hb Bl.lt).cell hj) ⟨_, rfl, rfl, Below.refl _ _⟩
      case o2 =>
        refine GdOp.plain rfl (fun A vs w' hF hT hb hd => ?_)
        have e1 : A.eval (.tmp 1) = .int .i64 o := hF 1 rfl
        exact BigFrame.wp_move _ rfl ⟨_, rfl, e1, Below.refl _ _⟩
      case o3 =>
        refine GdOp.plain rfl (fun A vs w' hF hT hb hd => ?_)
        have e1 : A.eval (.tmp 17) = .agg #[.slice aH H.length cH, .slice aQ Q.length cQ] := (hT 17 1 (by simp) rfl).trans (hd ⟨1, .data⟩ (by simp) rfl)
        have e2 : A.eval (.tmp 18) = .int .i64 o := (hT 18 2 (by simp) rfl).trans (hd ⟨2, .data⟩ (by simp) rfl)
        refine wp_callFn rfl eP (args := #[.agg #[.slice aH H.length cH, .slice aQ Q.length cQ], .int .i64 o]) (by simp only [List.map_toArray, List.map_cons, List.map_nil, e1, e2]) ((place_any w' ((hfull.below q).below hb)).mono ?_)
        rintro e w3 ⟨p2, rfl, hp2, hb2⟩
        obtain rfl := hp2.uniq hp
        exact ⟨_, rfl, _, rfl, rfl, hb2⟩
      case o4 =>
        refine GdOp.plain rfl (fun A vs w' hF hT hb hd => ?_)
        have e1 : A.eval (.tmp 16) = .agg #[.slice aH H.length cH, .slice aQ Q.length cQ] := (hT 16 0 (by simp) rfl).trans (hd ⟨0, .data⟩ (by simp) rfl)
        have e2 : A.eval (.tmp 19) = .int .i64 (i : Nat) := (hT 19 3 (by simp) rfl).trans (hd ⟨3, .data⟩ (by simp) rfl)
        refine wp_callFn rfl eB (args := #[.agg #[.slice aH H.length cH, .slice aQ Q.length cQ], .int .i64 (i : Nat)]) (by simp only [List.map_toArray, List.map_cons, List.map_nil, e1, e2]) ((hrb w' hb).mono ?_)
        rintro e w3 ⟨rfl, hb2⟩
        exact ⟨_, rfl, _, rfl, rfl, hb2⟩
      case o5 =>
        refine GdOp.plain rfl (fun A vs w' hF hT hb hd => ?_)
        have e1 : A.eval (.tmp 20) = .agg #[.bool (f 0), .bool (f 1), .bool (f 2), .bool (f 3)] := (hT 20 4 (by simp) rfl).trans (hd ⟨4, .data⟩ (by simp) rfl)
        refine wp_callFn rfl eI (args := #[.agg #[.bool (f 0), .bool (f 1), .bool (f 2), .bool (f 3)]]) (by simp only [List.map_toArray, List.map_cons, List.map_nil, e1]) ((list_any w' f).mono ?_)
        rintro e w3 ⟨a9, c9, rfl, ho9, hb2⟩
        exact ⟨_, rfl, _, rfl, ⟨a9, c9, rfl, ho9.to (Nat.le_trans q.size hb.size) (Nat.le_trans q.size hb.size)⟩, hb2⟩
      case o6 =>
        refine GdOp.plain rfl (fun A vs w' hF hT hb hd => ?_)
        obtain ⟨a9, c9, q9, ho9⟩ := hd ⟨5, .data⟩ (by simp) rfl
        exact BigFrame.wp_assign _ rfl ⟨_, rfl, ⟨a9, c9, (hT 21 5 (by simp) rfl).trans q9, ho9⟩, Below.refl _ _⟩
      case fin =>
      intro A9 vs9 W9 hA9 hb9 hG9
      obtain ⟨a9, c9, q9, ho9⟩ := hG9 6 (by decide)
      have e4 : A9.eval (.tmp 4) = .slice a9 (markL f 4).length c9 := (hA9.2.2.2 4 6 (by simp) rfl).trans q9
      have hd9 : A9.defers = [] := hA9.1
      clear hG9 hA9
      go_wp2
      refine bodyPost_ret (v := .slice a9 (markL f 4).length c9) ?_ hd9 ⟨a9, c9, by rw [hbo.out], by rw [hbo.out]; exact ho9, q.trans (hb9.mono q.size)⟩
      rw [← e4]
      exact results_tmp rfl _ _ _
    · have d1 : decide ((-1 : Int) < 0) = true := by decide
      have hbo : bloL H Q o = [] := (blo_of (.inr ⟨by rw [hw]; simp, rfl⟩)).symm
      clear hp hw
      replace hbo := Lib.hid hbo
      replace hok := Lib.hid hok
      go_wp2_with fail
      go_ret
      exact ⟨none, 0, by rw [hbo.out]; rfl, by rw [hbo.out]; exact OwnL.nil _ _ _ _ _, q⟩
  · rw [decide_eq_false hok]
    have hbo : bloL H Q o = [] := if_neg hok
    clear hok
    replace hbo := Lib.hid hbo
    go_wp2_with fail
    go_ret
    exact ⟨none, 0, by rw [hbo.out]; rfl, by rw [hbo.out]; exact OwnL.nil _ _ _ _ _, q⟩
set_option maxRecDepth 100000 in
set_option maxHeartbeats 4000000 in
theorem refWaits_any (w : World) {S : Nat → Prop} {v : Value} {H Q : List Lk} {o : Int} (h : RdLs S w v H Q) (hnH : H.length ≤ 1000000) (hnQ : Q.length ≤ 1000000) :
    Calls Tryd.prog 19 #[v, .int .i64 o] w fun e w' => e = .returned (.bool (decide (okLk H Q) && waitsL Q o)) ∧ Below w.heap.size w w' := by
  have hfull := h
  obtain ⟨aH, cH, aQ, cQ, rfl, hH, hQ⟩ := h
  have hl2 : Q.length ≤ 9223372036854775807 := by omega
  clear hH hQ
  obtain ⟨W, hW, q, Bl, hsz⟩ := spBox w 24 [.slice aH H.length cH, .slice aQ Q.length cQ]
  have hsz1 : w.heap.size ≤ W.heap.size := q.size
  clear hsz
  go_enter Tryd.func19, Tryd.ntmps19
  go_upto_region 1 with (fail)
  rw [show w.alloc (.cells #[.slice aH H.length cH, .slice aQ Q.length cQ] 24) = W from hW.symm]
  clear hW
  have b0 := Bl.cell (i := 0) rfl
  have b1 := Bl.cell (i := 1) rfl
  have hcl := refChk_any W (hfull.below q) hnH hnQ
  go_wp2_with fail
  refine hcl.mono ?_
  rintro e w1 ⟨rfl, hb⟩
  clear hcl b0 b1
  replace Bl := Bl.below hb Bl.lt
  replace q := q.trans (hb.mono q.size)
  clear hb
  by_cases hok : okLk H Q
  · have HK := Lib.hid (show (decide (okLk H Q) && waitsL Q o) = waitsL Q o by rw [decide_eq_true hok]; rfl)
    rw [decide_eq_true hok]
    clear hok
    have b0 := Bl.cell (i := 0) rfl
    have b1 := Bl.cell (i := 1) rfl
    have hcl := place_any w1 (hfull.below q) (o := o)
    go_wp2_with fail
    refine hcl.mono ?_
    rintro e w2 ⟨p, rfl, hp, hb⟩
    clear hcl b0 b1
    replace Bl := Bl.below hb Bl.lt
    replace q := q.trans (hb.mono q.size)
    clear hb
    have hpw := Lib.hid hp.waits
    clear hp
    by_cases h0 : 0 ≤ p
    · have d1 : decide (0 ≤ p) = true := decide_eq_true h0
      have hw := Lib.hid (hpw.out.symm.trans d1)
      clear h0 hpw
      go_wp2_with fail
      go_ret
      exact ⟨by rw [HK.out, hw.out]; rfl, q⟩
    · have d1 : decide (0 ≤ p) = false := decide_eq_false h0
      have hw := Lib.hid (hpw.out.symm.trans d1)
      clear h0 hpw
      go_wp2_with fail
      go_ret
      exact ⟨by rw [HK.out, hw.out]; rfl, q⟩
  · have HK := Lib.hid (show (decide (okLk H Q) && waitsL Q o) = false by rw [decide_eq_false hok]; rfl)
    rw [decide_eq_false hok]
    clear hok
    go_wp2_with fail
    go_ret
    exact ⟨by rw [HK.out]; rfl, q⟩
end Go.Proofs.YtpdnehgboafgpaaDoor
namespace Go.Proofs.YtpdnehgboafgpaaDoor
open Go.RowKit Go.Shelf
theorem rise_len (l : List Int) : (riseL l).length ≤ l.length := by
  unfold riseL
  have := compact_len (l.mergeSort fun x y => decide (x ≤ y))
  rwa [List.length_mergeSort] at this
theorem blkG_len {H : List Lk} {o : Int} : ∀ {Q p : List Lk}, (blkG H p Q o).length ≤ H.length + p.length + Q.length
  | [], _ => by simp [blkG]
  | y :: l, p => by
    unfold blkG
    split
    · refine Nat.le_trans (rise_len _) ?_
      unfold blkO
      rw [List.length_map]
      refine Nat.le_trans (List.length_filter_le _ _) ?_
      rw [List.length_append]; simp only [List.length_cons]; omega
    · have := @blkG_len H o l (p ++ [y])
      simp only [List.length_append, List.length_cons, List.length_nil] at this ⊢
      omega
theorem bloL_len (H Q : List Lk) (o : Int) : (bloL H Q o).length ≤ H.length + Q.length := by
  unfold bloL
  split
  · have := @blkG_len H o Q []
    simpa using this
  · simp
theorem edgesN_len (H Q : List Lk) : ∀ n, (edgesN H Q n).length ≤ n * (H.length + Q.length)
  | 0 => by simp [edgesN]
  | n + 1 => by
    rw [edgesN_succ, List.length_append, List.length_map, Nat.add_mul]
    have := edgesN_len H Q n
    have := bloL_len H Q (n : Int)
    omega
set_option maxRecDepth 100000 in
set_option maxHeartbeats 4000000 in
theorem edges_any (w : World) (hT : TabAt w) {S : Nat → Prop} {v : Value} {H Q : List Lk} (h : RdLs S w v H Q) (hnH : H.length ≤ 400000) (hnQ : Q.length ≤ 400000) :
    Calls Tryd.prog 25 #[v] w fun e w' => ∃ a c, e = .returned (.slice a (edgesL H Q).length c) ∧ OwnL Elt.ed 52 w.heap.size w.heap.size w' (.slice a (edgesL H Q).length c) (edgesL H Q) ∧ Below w.heap.size w w' := by
  have hfull := h
  have hbl := fun o => bloL_len H Q o
  obtain ⟨aH, cH, aQ, cQ, rfl, hH, hQ⟩ := h
  clear hH hQ
  obtain ⟨W, hW, q, Bl, hsz⟩ := spBox w 24 [.slice aH H.length cH, .slice aQ Q.length cQ]
  have hz : w.heap.size + 1 ≤ W.heap.size := by have := Bl.lt; omega
  clear hsz
  go_enter Tryd.func25, Tryd.ntmps25
  go_upto_region 1 with (fail)
  rw [show w.alloc (.cells #[.slice aH H.length cH, .slice aQ Q.length cQ] 24) = W from hW.symm]
  clear hW
  go_upto_region 3 with (fail)
  go_loopw [3, 7] (fun ov iv wr => ∃ (o : Nat) (ad : Option Addr) (co : Nat), iv = .int .i64 (o : Int) ∧ o ≤ 4 ∧ ov = .slice ad (edgesN H Q o).length co ∧ OwnL Elt.ed 52 (w.heap.size + 1) (w.heap.size + 1) wr (.slice ad (edgesN H Q o).length co) (edgesN H Q o) ∧ Below w.heap.size w wr ∧ w.heap.size + 1 ≤ wr.heap.size ∧ BoxN wr w.heap.size 24 [.slice aH H.length cH, .slice aQ Q.length cQ])
    (fun _ i _ => 4 - (intOf i).toNat)
  case atStart => exact ⟨0, none, 0, rfl, by omega, rfl, OwnL.nil _ _ _ _ _, q, hz, Bl⟩
  case round =>
    clear q Bl hz
    obtain ⟨o, ad, co, rfl, ho4, rfl, hO, q, hz, Bl⟩ := hrel
    rcases Nat.lt_or_ge o 4 with hlt | hge
    · have hsn := Lib.hid (edgesN_succ H Q o)
      have hPl : (edgesN H Q o).length ≤ 3200000 := by
        have h1 := edgesN_len H Q o
        have h2 : o * (H.length + Q.length) ≤ 4 * 800000 := Nat.mul_le_mul (by omega) (by omega)
        omega
      have hbo := hbl (o : Int)
      obtain ⟨P, eP⟩ : ∃ P, P = edgesN H Q o := ⟨_, rfl⟩
      rw [← eP] at hO hsn hPl
      rw [← eP]
      clear eP
      have d0 : decide ((o : Int) < 4) = true := decide_eq_true (by omega)
      have hclB := lBlockers_any wr (hT.below q) (o := (o : Int)) (hfull.below q) hnH hnQ
      have b0 := Bl.cell (i := 0) rfl
      have b1 := Bl.cell (i := 1) rfl
      go_wp2_with fail
      refine hclB.mono ?_
      rintro e w1 ⟨l, al, cl, rfl, hOl, hb, hl⟩
      obtain rfl := blo_of hl
      clear hl
      clear hclB b0 b1 d0
      obtain ⟨l, el⟩ : ∃ l, l = bloL H Q (o : Int) := ⟨_, rfl⟩
      rw [← el] at hOl hsn hbo
      rw [← el]
      clear el
      have hB := hb.size
      have hob : ∀ g, Value.ownBlock (.slice ad P.length co) = some g → g < wr.heap.size ∨ w1.heap.size ≤ g := fun g hg => .inl (hO.block_lt g hg).2
      have hl : RdL Elt.int (fun k => wr.heap.size ≤ k ∧ k < w1.heap.size) w1 (.slice al l.length cl) l := hOl.rdL.weak fun k hk => ⟨by omega, hk.2⟩
      replace q := q.trans (hb.mono q.size)
      replace Bl := Bl.below hb Bl.lt
      replace hO := hO.below hb
      have hz1 : w.heap.size + 1 ≤ w1.heap.size := by omega
      clear hb hOl
      obtain ⟨B1, eB1⟩ : ∃ B, B = wr.heap.size := ⟨_, rfl⟩
      obtain ⟨B2, eB2⟩ : ∃ B, B = w1.heap.size := ⟨_, rfl⟩
      rw [← eB1] at hob hl hz
      rw [← eB2] at hob hl
      have hB2 : B2 ≤ w1.heap.size := by omega
      clear eB1 eB2 hB hz
      have hlm : l.length ≤ 9223372036854775807 := by omega
      go_upto_region 6 with (fail)
      go_loopw [3, 14] (fun ov iv wr => ∃ (j : Nat) (ad : Option Addr) (co : Nat), iv = .int .i64 (j : Int) ∧ j ≤ l.length ∧ ov = .slice ad (P ++ (l.take j).map fun b => ((o : Int), b)).length co ∧ OwnL Elt.ed 52 (w.heap.size + 1) (w.heap.size + 1) wr (.slice ad (P ++ (l.take j).map fun b => ((o : Int), b)).length co) (P ++ (l.take j).map fun b => ((o : Int), b)) ∧ (∀ g, Value.ownBlock (.slice ad (P ++ (l.take j).map fun b => ((o : Int), b)).length co) = some g → g < B1 ∨ B2 ≤ g) ∧ RdL Elt.int (fun k => B1 ≤ k ∧ k < B2) wr (.slice al l.length cl) l ∧ Below w.heap.size w wr ∧ w.heap.size + 1 ≤ wr.heap.size ∧ B2 ≤ wr.heap.size ∧ BoxN wr w.heap.size 24 [.slice aH H.length cH, .slice aQ Q.length cQ])
        (fun _ i _ => l.length - (intOf i).toNat)
      case atStart => exact ⟨0, ad, co, rfl, Nat.zero_le _, by simp, by simpa using hO, by simpa using hob, hl, q, hz1, hB2, Bl⟩
      case round =>
        clear hO hob hl q hz1 hB2 Bl
        obtain ⟨j, ad, co, rfl, hjl, rfl, hO, hob, hl, q, hz1, hB2, Bl⟩ := hrel
        rcases Nat.lt_or_ge j l.length with hltj | hgej
        · obtain ⟨b, off, rfl, _, ck, w64⟩ := hl.num j hltj
          have hs2 := Lib.hid (show (P ++ (l.take (j + 1)).map fun b => ((o : Int), b)) = (P ++ (l.take j).map fun b => ((o : Int), b)) ++ [((o : Int), l[j])] by rw [List.take_succ_eq_append_getElem hltj, List.map_append, List.append_assoc]; rfl)
          have hXl : (P ++ (l.take j).map fun b => ((o : Int), b)).length ≤ 10000000 := by rw [List.length_append, List.length_map, List.length_take]; omega
          obtain ⟨xs, exs⟩ : ∃ xs, xs = (P ++ (l.take j).map fun b => ((o : Int), b)) := ⟨_, rfl⟩
          rw [← exs] at hO hob hs2 hXl
          rw [← exs]
          clear exs
          obtain ⟨z, ez⟩ : ∃ z, z = l[j] := ⟨_, rfl⟩
          rw [← ez] at ck hs2 w64
          clear ez
          have d1 : decide ((j : Int) < (l.length : Int)) = true := decide_eq_true (by omega)
          have hrr : ∀ k, Value.ownBlock (.slice ad xs.length co) = some k → w.heap.size + 1 ≤ k ∧ k < wr.heap.size := fun k hk => hO.block_lt k hk
          have hR : ∀ V, Elt.ed.R (fun k => w.heap.size + 1 ≤ k ∧ k < w.heap.size) V ((o : Int), z) [.int .i64 (o : Int), .int .i64 z] := fun V => ⟨rfl, by unfold W64; simp only; omega, w64⟩
          have hSV : ∀ V : World, ∀ k, (w.heap.size + 1 ≤ k ∧ k < w.heap.size) → w.heap.size + 1 ≤ k ∧ k < V.heap.size ∧ some k ≠ Value.ownBlock (.slice ad xs.length co) := fun V k hk => by omega
          have hbs : ∀ V : World, Below wr.heap.size wr V → w.heap.size + 1 ≤ V.heap.size := fun V h => by have := h.size; omega
          go_wp2_with (first
            | (refine wpList_buildOne edP rfl rfl rfl (us := [.int .i64 (o : Int), .int .i64 z]) rfl rfl (by decide) (by decide) ?_; intro w6 hb6 hrow)
            | (refine wpList_apvRow (E := Elt.ed) (n := xs.length + 1) edP rfl rfl rfl rfl (hO.below hb6) hrow (hR _) (hSV _) (hbs _ hb6) (by omega) rfl ?_; intro ad9 c9 w7 hO9 hg7 ho9)
            | fail)
          have hln : (xs ++ [((o : Int), z)]).length = xs.length + 1 := by rw [List.length_append]; rfl
          have q9 : Below w.heap.size w w7 := (q.trans (hb6.mono q.size)).grown hg7 (q.trans (hb6.mono q.size)).size fun k hk => by have := (hrr k hk).1; omega
          have Bl9 : BoxN w7 w.heap.size 24 [.slice aH H.length cH, .slice aQ Q.length cQ] := (Bl.below hb6 Bl.lt).other hg7 fun e => by have := (hrr _ e).1; omega
          have hz9 : w.heap.size + 1 ≤ w7.heap.size := by have := Bl9.lt; omega
          have hsz9 : B2 ≤ w7.heap.size := by have := hb6.size; have := hg7.size; omega
          have hl9 : RdL Elt.int (fun k => B1 ≤ k ∧ k < B2) w7 (.slice (some ⟨b, off, none⟩) l.length cl) l := (hl.below hb6).keep fun k hk => hg7.block k (by have := hb6.size; omega) fun e => by have := hob k e.symm; omega
          have hob9 : ∀ g, Value.ownBlock (.slice ad9 (xs.length + 1) c9) = some g → g < B1 ∨ B2 ≤ g := fun g hg => by
            rcases ho9 with h9 | h9
            · exact hob g (h9 ▸ hg)
            · rw [hg] at h9; injection h9 with h9; have := hb6.size; exact .inr (by omega)
          rw [← hln] at hO9 hob9
          clear hrr hR hSV hbs hg7 hO hrow hb6 ho9 hob hl d1 ck
          go_roundw
          case rel => exact ⟨j + 1, ad9, c9, by go_num, by omega, by rw [hs2.out, hln], by rw [hs2.out]; exact hO9, by rw [hs2.out]; exact hob9, hl9, q9, hz9, hsz9, Bl9⟩
          case measure => simp [intOf]; omega
        · obtain rfl : j = l.length := by omega
          have d1 : decide ((l.length : Int) < (l.length : Int)) = false := decide_eq_false (by omega)
          rw [List.take_length] at hO
          have hs2 := Lib.hid (show edgesN H Q (o + 1) = P ++ l.map fun b => ((o : Int), b) from hsn.out)
          rw [List.take_length]
          clear hsn hob hl
          go_wp2_with fail
          go_roundw
          case rel => exact ⟨o + 1, ad, co, by go_num, by omega, by rw [hs2.out], by rw [hs2.out]; exact hO, q, hz1, Bl⟩
          case measure => simp [intOf]; omega
    · obtain rfl : o = 4 := by omega
      go_wp2_with fail
      go_ret
      exact ⟨ad, co, rfl, hO.to (by omega) (by omega), q⟩
set_option maxRecDepth 100000 in
set_option maxHeartbeats 4000000 in
theorem rEdges_any (w : World) {S : Nat → Prop} {v : Value} {H Q : List Lk} (h : RdLs S w v H Q) (hnH : H.length ≤ 400000) (hnQ : Q.length ≤ 400000) :
    Calls Tryd.prog 26 #[v] w fun e w' => ∃ a c, e = .returned (.slice a (edgesL H Q).length c) ∧ OwnL Elt.ed 52 w.heap.size w.heap.size w' (.slice a (edgesL H Q).length c) (edgesL H Q) ∧ Below w.heap.size w w' := by
  have hfull := h
  have hbl := fun o => bloL_len H Q o
  obtain ⟨aH, cH, aQ, cQ, rfl, hH, hQ⟩ := h
  clear hH hQ
  obtain ⟨W, hW, q, Bl, hsz⟩ := spBox w 24 [.slice aH H.length cH, .slice aQ Q.length cQ]
  have hz : w.heap.size + 1 ≤ W.heap.size := by have := Bl.lt; omega
  clear hsz
  go_enter Tryd.func26, Tryd.ntmps26
  go_upto_region 1 with (fail)
  rw [show w.alloc (.cells #[.slice aH H.length cH, .slice aQ Q.length cQ] 24) = W from hW.symm]
  clear hW
  go_upto_region 3 with (fail)
  go_loopw [3, 4] (fun ov iv wr => ∃ (o : Nat) (ad : Option Addr) (co : Nat), iv = .int .i64 (o : Int) ∧ o ≤ 4 ∧ ov = .slice ad (edgesN H Q o).length co ∧ OwnL Elt.ed 52 (w.heap.size + 1) (w.heap.size + 1) wr (.slice ad (edgesN H Q o).length co) (edgesN H Q o) ∧ Below w.heap.size w wr ∧ w.heap.size + 1 ≤ wr.heap.size ∧ BoxN wr w.heap.size 24 [.slice aH H.length cH, .slice aQ Q.length cQ])
    (fun _ i _ => 4 - (intOf i).toNat)
  case atStart => exact ⟨0, none, 0, rfl, by omega, rfl, OwnL.nil _ _ _ _ _, q, hz, Bl⟩
  case round =>
    clear q Bl hz
    obtain ⟨o, ad, co, rfl, ho4, rfl, hO, q, hz, Bl⟩ := hrel
    rcases Nat.lt_or_ge o 4 with hlt | hge
    · have hsn := Lib.hid (edgesN_succ H Q o)
      have hPl : (edgesN H Q o).length ≤ 3200000 := by
        have h1 := edgesN_len H Q o
        have h2 : o * (H.length + Q.length) ≤ 4 * 800000 := Nat.mul_le_mul (by omega) (by omega)
        omega
      have hbo := hbl (o : Int)
      obtain ⟨P, eP⟩ : ∃ P, P = edgesN H Q o := ⟨_, rfl⟩
      rw [← eP] at hO hsn hPl
      rw [← eP]
      clear eP
      have d0 : decide ((o : Int) < 4) = true := decide_eq_true (by omega)
      have hclW := refWaits_any wr (o := (o : Int)) (hfull.below q) (by omega) (by omega)
      have hno := Lib.hid (show (decide (okLk H Q) && waitsL Q o) = false → bloL H Q o = [] from fun h => (blo_of (.inr ⟨h, rfl⟩)).symm)
      obtain ⟨wt, ewt⟩ : ∃ b, b = (decide (okLk H Q) && waitsL Q o) := ⟨_, rfl⟩
      rw [← ewt] at hclW hno
      clear ewt
      have b0 := Bl.cell (i := 0) rfl
      have b1 := Bl.cell (i := 1) rfl
      go_wp2_with fail
      refine hclW.mono ?_
      rintro e w1 ⟨rfl, hb⟩
      clear hclW b0 b1
      replace q := q.trans (hb.mono q.size)
      replace Bl := Bl.below hb Bl.lt
      replace hO := hO.below hb
      replace hz := Nat.le_trans hz hb.size
      clear hb
      cases wt with
      | false =>
        have hs2 := Lib.hid (show edgesN H Q (o + 1) = P by rw [hsn.out, hno.out rfl]; simp)
        clear hsn hno d0
        go_wp2_with fail
        go_roundw
        case rel => exact ⟨o + 1, ad, co, by go_num, by omega, by rw [hs2.out], by rw [hs2.out]; exact hO, q, hz, Bl⟩
        case measure => simp [intOf]; omega
      | true =>
      clear hno
      obtain ⟨wr, ewr⟩ : ∃ V, V = w1 := ⟨_, rfl⟩
      rw [← ewr] at q Bl hO hz
      rw [← ewr]
      clear ewr
      have hclB := refBlockers_any wr (o := (o : Int)) (hfull.below q) (by omega) (by omega)
      have b0 := Bl.cell (i := 0) rfl
      have b1 := Bl.cell (i := 1) rfl
      go_wp2_with fail
      refine hclB.mono ?_
      rintro e w1 ⟨al, cl, rfl, hOl, hb⟩
      clear hclB b0 b1 d0
      obtain ⟨l, el⟩ : ∃ l, l = bloL H Q (o : Int) := ⟨_, rfl⟩
      rw [← el] at hOl hsn hbo
      rw [← el]
      clear el
      have hB := hb.size
      have hob : ∀ g, Value.ownBlock (.slice ad P.length co) = some g → g < wr.heap.size ∨ w1.heap.size ≤ g := fun g hg => .inl (hO.block_lt g hg).2
      have hl : RdL Elt.int (fun k => wr.heap.size ≤ k ∧ k < w1.heap.size) w1 (.slice al l.length cl) l := hOl.rdL.weak fun k hk => ⟨by omega, hk.2⟩
      replace q := q.trans (hb.mono q.size)
      replace Bl := Bl.below hb Bl.lt
      replace hO := hO.below hb
      have hz1 : w.heap.size + 1 ≤ w1.heap.size := by omega
      clear hb hOl
      obtain ⟨B1, eB1⟩ : ∃ B, B = wr.heap.size := ⟨_, rfl⟩
      obtain ⟨B2, eB2⟩ : ∃ B, B = w1.heap.size := ⟨_, rfl⟩
      rw [← eB1] at hob hl hz
      rw [← eB2] at hob hl
      have hB2 : B2 ≤ w1.heap.size := by omega
      clear eB1 eB2 hB hz
      have hlm : l.length ≤ 9223372036854775807 := by omega
      go_upto_region 9 with (fail)
      go_loopw [3, 7] (fun ov iv wr => ∃ (j : Nat) (ad : Option Addr) (co : Nat), iv = .int .i64 (j : Int) ∧ j ≤ l.length ∧ ov = .slice ad (P ++ (l.take j).map fun b => ((o : Int), b)).length co ∧ OwnL Elt.ed 52 (w.heap.size + 1) (w.heap.size + 1) wr (.slice ad (P ++ (l.take j).map fun b => ((o : Int), b)).length co) (P ++ (l.take j).map fun b => ((o : Int), b)) ∧ (∀ g, Value.ownBlock (.slice ad (P ++ (l.take j).map fun b => ((o : Int), b)).length co) = some g → g < B1 ∨ B2 ≤ g) ∧ RdL Elt.int (fun k => B1 ≤ k ∧ k < B2) wr (.slice al l.length cl) l ∧ Below w.heap.size w wr ∧ w.heap.size + 1 ≤ wr.heap.size ∧ B2 ≤ wr.heap.size ∧ BoxN wr w.heap.size 24 [.slice aH H.length cH, .slice aQ Q.length cQ])
        (fun _ i _ => l.length - (intOf i).toNat)
      case atStart => exact ⟨0, ad, co, rfl, Nat.zero_le _, by simp, by simpa using hO, by simpa using hob, hl, q, hz1, hB2, Bl⟩
      case round =>
        clear hO hob hl q hz1 hB2 Bl
        obtain ⟨j, ad, co, rfl, hjl, rfl, hO, hob, hl, q, hz1, hB2, Bl⟩ := hrel
        rcases Nat.lt_or_ge j l.length with hltj | hgej
        · obtain ⟨b, off, rfl, _, ck, w64⟩ := hl.num j hltj
          have hs2 := Lib.hid (show (P ++ (l.take (j + 1)).map fun b => ((o : Int), b)) = (P ++ (l.take j).map fun b => ((o : Int), b)) ++ [((o : Int), l[j])] by rw [List.take_succ_eq_append_getElem hltj, List.map_append, List.append_assoc]; rfl)
          have hXl : (P ++ (l.take j).map fun b => ((o : Int), b)).length ≤ 10000000 := by rw [List.length_append, List.length_map, List.length_take]; omega
          obtain ⟨xs, exs⟩ : ∃ xs, xs = (P ++ (l.take j).map fun b => ((o : Int), b)) := ⟨_, rfl⟩
          rw [← exs] at hO hob hs2 hXl
          rw [← exs]
          clear exs
          obtain ⟨z, ez⟩ : ∃ z, z = l[j] := ⟨_, rfl⟩
          rw [← ez] at ck hs2 w64
          clear ez
          have d1 : decide ((j : Int) < (l.length : Int)) = true := decide_eq_true (by omega)
          have hrr : ∀ k, Value.ownBlock (.slice ad xs.length co) = some k → w.heap.size + 1 ≤ k ∧ k < wr.heap.size := fun k hk => hO.block_lt k hk
          have hR : ∀ V, Elt.ed.R (fun k => w.heap.size + 1 ≤ k ∧ k < w.heap.size) V ((o : Int), z) [.int .i64 (o : Int), .int .i64 z] := fun V => ⟨rfl, by unfold W64; simp only; omega, w64⟩
          have hSV : ∀ V : World, ∀ k, (w.heap.size + 1 ≤ k ∧ k < w.heap.size) → w.heap.size + 1 ≤ k ∧ k < V.heap.size ∧ some k ≠ Value.ownBlock (.slice ad xs.length co) := fun V k hk => by omega
          have hbs : ∀ V : World, Below wr.heap.size wr V → w.heap.size + 1 ≤ V.heap.size := fun V h => by have := h.size; omega
          go_wp2_with (first
            | (refine wpList_buildOne edP rfl rfl rfl (us := [.int .i64 (o : Int), .int .i64 z]) rfl rfl (by decide) (by decide) ?_; intro w6 hb6 hrow)
            | (refine wpList_apvRow (E := Elt.ed) (n := xs.length + 1) edP rfl rfl rfl rfl (hO.below hb6) hrow (hR _) (hSV _) (hbs _ hb6) (by omega) rfl ?_; intro ad9 c9 w7 hO9 hg7 ho9)
            | fail)
          have hln : (xs ++ [((o : Int), z)]).length = xs.length + 1 := by rw [List.length_append]; rfl
          have q9 : Below w.heap.size w w7 := (q.trans (hb6.mono q.size)).grown hg7 (q.trans (hb6.mono q.size)).size fun k hk => by have := (hrr k hk).1; omega
          have Bl9 : BoxN w7 w.heap.size 24 [.slice aH H.length cH, .slice aQ Q.length cQ] := (Bl.below hb6 Bl.lt).other hg7 fun e => by have := (hrr _ e).1; omega
          have hz9 : w.heap.size + 1 ≤ w7.heap.size := by have := Bl9.lt; omega
          have hsz9 : B2 ≤ w7.heap.size := by have := hb6.size; have := hg7.size; omega
          have hl9 : RdL Elt.int (fun k => B1 ≤ k ∧ k < B2) w7 (.slice (some ⟨b, off, none⟩) l.length cl) l := (hl.below hb6).keep fun k hk => hg7.block k (by have := hb6.size; omega) fun e => by have := hob k e.symm; omega
          have hob9 : ∀ g, Value.ownBlock (.slice ad9 (xs.length + 1) c9) = some g → g < B1 ∨ B2 ≤ g := fun g hg => by
            rcases ho9 with h9 | h9
            · exact hob g (h9 ▸ hg)
            · rw [hg] at h9; injection h9 with h9; have := hb6.size; exact .inr (by omega)
          rw [← hln] at hO9 hob9
          clear hrr hR hSV hbs hg7 hO hrow hb6 ho9 hob hl d1 ck
          go_roundw
          case rel => exact ⟨j + 1, ad9, c9, by go_num, by omega, by rw [hs2.out, hln], by rw [hs2.out]; exact hO9, by rw [hs2.out]; exact hob9, hl9, q9, hz9, hsz9, Bl9⟩
          case measure => simp [intOf]; omega
        · obtain rfl : j = l.length := by omega
          have d1 : decide ((l.length : Int) < (l.length : Int)) = false := decide_eq_false (by omega)
          rw [List.take_length] at hO
          have hs2 := Lib.hid (show edgesN H Q (o + 1) = P ++ l.map fun b => ((o : Int), b) from hsn.out)
          rw [List.take_length]
          clear hsn hob hl
          go_wp2_with fail
          go_roundw
          case rel => exact ⟨o + 1, ad, co, by go_num, by omega, by rw [hs2.out], by rw [hs2.out]; exact hO, q, hz1, Bl⟩
          case measure => simp [intOf]; omega
    · obtain rfl : o = 4 := by omega
      go_wp2_with fail
      go_ret
      exact ⟨ad, co, rfl, hO.to (by omega) (by omega), q⟩
end Go.Proofs.YtpdnehgboafgpaaDoor
namespace Go.Proofs.YtpdnehgboafgpaaDoor
open Go.RowKit
def LsR (r : List Lk × List Lk × Nat) (S : Nat → Prop) (w : World) (v e : Value) : Prop := e = .int .i64 (r.2.2 : Nat) ∧ RdLs S w v r.1 r.2.1
def LsB (w : World) (b : Nat) (v : Value) : Prop := ∃ x y, v = .agg #[x, y] ∧ BoxN w b 24 [x, y]
def zLs : Obj := .cells [Value.slice none 0 0, .slice none 0 0].toArray 24 (0, 0)
def LkV (x : Lk) (S : Nat → Prop) (w : World) (v : Value) : Prop := RdLk S w v x
theorem lsR (r : List Lk × List Lk × Nat) : RdP (LsR r) where
  keep := fun ⟨e, h⟩ hk => ⟨e, h.keep hk⟩
  weak := fun ⟨e, h⟩ hk => ⟨e, h.weak hk⟩
section
variable {hk : Bool} {C0 : Array Value} {E0 : TypeId} {r : List Lk × List Lk × Nat} {Z : Obj} {K1 K2 : (Nat → Prop) → World → Value → Prop} {W w : World} {o0 o1 o2 c m x z s : Option Value}
theorem CbS.errL {Bx : World → Nat → Value → Prop} {u : Value} (h : CbS hk C0 E0 (LsR r) Z Bx K1 K2 W o0 o1 o2 c m x (some u) z s w) : u = .int .i64 (r.2.2 : Nat) := by
  obtain ⟨v, e1⟩ := h.my u rfl
  obtain ⟨v', e', e2, e3, _⟩ := h.rr _ (h.mv _ e1)
  injection e2 with e2
  injection e2 with e2
  injection e2 with _ e2
  injection e2 with e2 _
  rw [e2, e3]
theorem CbS.locks {u1 u2 u3 u4 u5 : Value} (h : CbS hk C0 E0 (LsR r) Z LsB K1 K2 W o0 o1 o2 (some u1) (some u2) (some u3) (some u4) (some u5) s w) (hs : s ≠ none) :
    ∃ (b : Nat) (a : Option Addr) (c : Nat) (m : Option Addr) (n : Nat), u5 = .pointer (some ⟨b, 0, none⟩) ∧ u2 = .tuple #[.agg #[.slice a r.1.length c, .slice m r.2.1.length n], .int .i64 (r.2.2 : Nat)] ∧ u1 = .tuple #[.agg #[.slice a r.1.length c, .slice m r.2.1.length n], .int .i64 (r.2.2 : Nat)] ∧ u3 = .agg #[.slice a r.1.length c, .slice m r.2.1.length n] ∧ u4 = .int .i64 (r.2.2 : Nat) ∧
      BoxN w b 24 [.slice a r.1.length c, .slice m r.2.1.length n] ∧ RdL Elt.lk (fun _ => True) w (.slice a r.1.length c) r.1 ∧ RdL Elt.lk (fun _ => True) w (.slice m r.2.1.length n) r.2.1 ∧ Below W.heap.size W w := by
  obtain ⟨b, e5, e2, e1, _, ⟨p, q, e3, hB⟩, ⟨e4, a, c, m, n, e6, h1, h2⟩, hb⟩ := CbS.done (lsR r) h hs
  rw [e3] at e6
  injection e6 with e6
  injection e6 with e6
  injection e6 with e7 e6
  injection e6 with e8 _
  subst e7 e8
  refine ⟨b, a, c, m, n, e5, ?_, ?_, e3, e4, hB, h1.weak fun _ _ => trivial, h2.weak fun _ _ => trivial, hb⟩
  · rw [e2, e3, e4]
  · rw [e1, e3, e4]
end
end Go.Proofs.YtpdnehgboafgpaaDoor
