/-
  TEXTS OF ONE PROOF, merged: RpC, RpD, Bxe, Push, DltE, RvD, RpE, RpF, Range, Rnh.
-/
import Derived.BigFrameIn
import Derived.OwnWalkIn
import Derived.RangeFuncBound
import Derived.RangeFuncLeaves
import Derived.RangeFuncNested
import Derived.Test.YtmcleffpjfeegaaRk6
namespace Go.Proofs.Ytmcleffpjfeegaa
open Go.RowKit Go.Shelf
theorem all_snoc {α : Type} {P : α → Prop} {l : List α} {k : Nat} (hlt : k < l.length) (h : ∀ x ∈ l.take k, P x) (hk : P l[k]) : ∀ x ∈ l.take (k + 1), P x := fun x hx => by
  rw [List.take_succ_eq_append_getElem hlt] at hx
  rcases List.mem_append.1 hx with h2 | h2
  · exact h x h2
  · simp at h2; rw [h2]; exact hk
set_option maxRecDepth 100000 in
set_option maxHeartbeats 8000000 in
theorem rHit_any (w : World) {S S2 : Nat → Prop} {a a2 : Option Addr} {n cx n2 cy : Nat} {l : List Sp} {m : List Wr} (hl : RdL Elt.sp S w (.slice a n cx) l) (hm : RdL Elt.wr S2 w (.slice a2 n2 cy) m) :
    Calls Try.prog 17 #[.slice a n cx, .slice a2 n2 cy] w fun e w' => e = .returned (.bool (hitL l m)) ∧ Below w.heap.size w w' := by
  rw [hitL_ref]
  obtain ⟨rfl, hnc, hcm⟩ := hl.len
  have hlm : l.length ≤ 9223372036854775807 := by unfold maxLen at hcm; omega
  obtain ⟨rfl, hnc2, hcm2⟩ := hm.len
  have hmm : m.length ≤ 9223372036854775807 := by unfold maxLen at hcm2; omega
  have q := Below.refl w.heap.size w
  have eI : ∀ args w, (callFunc 35 args).run Try.prog w = .ok (.enter 35 args) w := enters_of Try.func35 (by kernel_rfl) rfl
  clear hnc hnc2 hcm hcm2
  go_enter Try.func17, Try.ntmps17
  go_upto_region 2 with (fail)
  go_loopw [5] (fun iv wr => ∃ (i : Nat), iv = .int .i64 i ∧ i ≤ l.length ∧ (∀ s ∈ l.take i, (m.any fun x => inT s x.table x.key) = false) ∧ Below w.heap.size w wr) (fun i _ => l.length - (intOf i).toNat)
  case atStart => exact ⟨0, rfl, Nat.zero_le _, by simp, q⟩
  case round =>
    clear q
    obtain ⟨i, rfl, hil, hall, q⟩ := hrel
    replace hall := Lib.hid hall
    rcases Nat.lt_or_ge i l.length with hlt | hge
    · have di : decide ((i : Int) < (l.length : Int)) = true := decide_eq_true (by omega)
      go_upto_region 5 with (fail)
      go_loopw [6] (fun kv wr => ∃ (k : Nat), kv = .int .i64 k ∧ k ≤ m.length ∧ (∀ x ∈ m.take k, inT l[i] x.table x.key = false) ∧ Below w.heap.size w wr) (fun i _ => m.length - (intOf i).toNat)
      case atStart => exact ⟨0, rfl, Nat.zero_le _, by simp, q⟩
      case round =>
        clear q
        obtain ⟨k, rfl, hkm, hno, q⟩ := hrel
        replace hno := Lib.hid hno
        rcases Nat.lt_or_ge k m.length with hlm2 | hge
        · have dk : decide ((k : Int) < (m.length : Int)) = true := decide_eq_true (by omega)
          obtain ⟨b1, o1, A1, A2, A3, A4, rfl, _, c0, c1, c2, c3, hk1, hk2, hw64⟩ := (hl.below q).sp i hlt
          obtain ⟨b2, o2, B1, B2, B3, B4, rfl, _, d0, d1, d2, d3, hk, _, _⟩ := (hm.below q).wr k hlm2
          have hyes := Lib.hid (fun h : inT l[i] m[k].table m[k].key = true => show (l.any fun s => m.any fun x => inT s x.table x.key) = true from List.any_eq_true.2 ⟨_, List.getElem_mem hlt, List.any_eq_true.2 ⟨_, List.getElem_mem hlm2, h⟩⟩)
          have hnext := Lib.hid (fun h : inT l[i] m[k].table m[k].key = false => all_snoc (P := fun x : Wr => inT l[i] x.table x.key = false) hlm2 hno.out h)
          obtain ⟨s, es⟩ : ∃ s, s = l[i] := ⟨_, rfl⟩
          obtain ⟨x, ex⟩ : ∃ x, x = m[k] := ⟨_, rfl⟩
          rw [← es] at c0 c1 c2 c3 hk1 hk2 hw64 hnext hyes
          rw [← ex] at d0 d1 d2 d3 hk hnext hyes
          have hs : RdSp S wr (.agg #[.int .i64 s.table, .slice A1 s.lo.length A2, .slice A3 s.hi.length A4, .bool s.isOpen]) s := ⟨_, _, _, _, rfl, hk1, hk2, hw64⟩
          replace es := Lib.hid es
          clear hk1 hk2 d2 d3 ex hw64
          go_upto_region 7 with (fail)
          refine wp_region_gsg (by kernel_rfl) (by kernel_rfl) [sgEq (.slice (some ⟨b1, o1, none⟩) l.length cx), sgEq (.int .i64 (i : Int)), sgEq (.pointer (some ⟨b1, o1 + i * 4, none⟩)), sgEq (.agg #[.int .i64 s.table, .slice A1 s.lo.length A2, .slice A3 s.hi.length A4, .bool s.isOpen]), sgEq (.slice (some ⟨b2, o2, none⟩) m.length cy), sgEq (.int .i64 (k : Int)), sgEq (.pointer (some ⟨b2, o2 + k * 4, none⟩)), sgEq (.pointer (some ⟨b2, o2 + k * 4, none⟩)), sgEq (.int .i64 x.table), sgEq (.slice (some ⟨b2, o2, none⟩) m.length cy), sgEq (.int .i64 (k : Int)), sgEq (.pointer (some ⟨b2, o2 + k * 4, none⟩)), sgEq (.pointer (some ⟨b2, o2 + k * 4 + 1, none⟩)), sgEq (.slice B1 x.key.length B2), sgEq (.bool (inT s x.table x.key)), sgEq (.bool (inT s x.table x.key))]
            ⟨?o0, ?o1, ?o2, ?o3, ?o4, ?o5, ?o6, ?o7, ?o8, ?o9, ?o10, ?o11, ?o12, ?o13, ?o14, ?o15, trivial⟩ ?fin
          case o0 =>
            refine GdOp.plain rfl (fun A vs w' hF hT hb hd => ?_)
            have e1 : A.eval (.tmp 0) = .slice (some ⟨b1, o1, none⟩) l.length cx := hF 0 rfl
            exact BigFrame.wp_move _ rfl ⟨_, rfl, e1, Below.refl _ _⟩
          case o1 =>
            refine GdOp.plain rfl (fun A vs w' hF hT hb hd => ?_)
            have e1 : A.eval (.tmp 5) = .int .i64 (i : Int) := hF 5 rfl
            exact BigFrame.wp_move _ rfl ⟨_, rfl, e1, Below.refl _ _⟩
          case o2 =>
            refine GdOp.plain rfl (fun A vs w' hF hT hb hd => ?_)
            have e1 : A.eval (.tmp 20) = .slice (some ⟨b1, o1, none⟩) l.length cx := (hT 20 0 (by simp) rfl).trans (hd ⟨0, .data⟩ (by simp) rfl)
            have e2 : A.eval (.tmp 21) = .int .i64 (i : Int) := (hT 21 1 (by simp) rfl).trans (hd ⟨1, .data⟩ (by simp) rfl)
            exact wp_ixN (e := 25) rfl (by kernel_rfl) (by kernel_rfl) (e1) (e2) rfl (by omega) ⟨_, rfl, rfl, Below.refl _ _⟩
          case o3 =>
            refine GdOp.plain rfl (fun A vs w' hF hT hb hd => ?_)
            have e1 : A.eval (.tmp 22) = .pointer (some ⟨b1, o1 + i * 4, none⟩) := (hT 22 2 (by simp) rfl).trans (hd ⟨2, .data⟩ (by simp) rfl)
            exact wp_load4 spS rfl e1 ((hb.cell (p := ⟨_, _, none⟩) (cell_lt c0)).trans c0) ((hb.cell (p := ⟨_, _, none⟩) (cell_lt c1)).trans c1) ((hb.cell (p := ⟨_, _, none⟩) (cell_lt c2)).trans c2) ((hb.cell (p := ⟨_, _, none⟩) (cell_lt c3)).trans c3) ⟨_, rfl, rfl, Below.refl _ _⟩
          case o4 =>
            refine GdOp.plain rfl (fun A vs w' hF hT hb hd => ?_)
            have e1 : A.eval (.tmp 1) = .slice (some ⟨b2, o2, none⟩) m.length cy := hF 1 rfl
            exact BigFrame.wp_move _ rfl ⟨_, rfl, e1, Below.refl _ _⟩
          case o5 =>
            refine GdOp.plain rfl (fun A vs w' hF hT hb hd => ?_)
            have e1 : A.eval (.tmp 6) = .int .i64 (k : Int) := hF 6 rfl
            exact BigFrame.wp_move _ rfl ⟨_, rfl, e1, Below.refl _ _⟩
          case o6 =>
            refine GdOp.plain rfl (fun A vs w' hF hT hb hd => ?_)
            have e1 : A.eval (.tmp 24) = .slice (some ⟨b2, o2, none⟩) m.length cy := (hT 24 4 (by simp) rfl).trans (hd ⟨4, .data⟩ (by simp) rfl)
            have e2 : A.eval (.tmp 25) = .int .i64 (k : Int) := (hT 25 5 (by simp) rfl).trans (hd ⟨5, .data⟩ (by simp) rfl)
            exact wp_ixN (e := 43) rfl (by kernel_rfl) (by kernel_rfl) (e1) (e2) rfl (by omega) ⟨_, rfl, rfl, Below.refl _ _⟩
          case o7 =>
            refine GdOp.plain rfl (fun A vs w' hF hT hb hd => ?_)
            have e1 : A.eval (.tmp 26) = .pointer (some ⟨b2, o2 + k * 4, none⟩) := (hT 26 6 (by simp) rfl).trans (hd ⟨6, .data⟩ (by simp) rfl)
            exact wp_fieldN wrS rfl (e1) (by omega) ⟨_, rfl, rfl, Below.refl _ _⟩
          case o8 =>
            refine GdOp.plain rfl (fun A vs w' hF hT hb hd => ?_)
            have e1 : A.eval (.tmp 27) = .pointer (some ⟨b2, o2 + k * 4, none⟩) := (hT 27 7 (by simp) rfl).trans (hd ⟨7, .data⟩ (by simp) rfl)
            exact wp_ld_int (k := .i64) rfl e1 (by kernel_rfl) (((hb.cell (p := ⟨_, _, none⟩) (cell_lt d0)).trans d0)) ⟨_, rfl, rfl, Below.refl _ _⟩
          case o9 =>
            refine GdOp.plain rfl (fun A vs w' hF hT hb hd => ?_)
            have e1 : A.eval (.tmp 1) = .slice (some ⟨b2, o2, none⟩) m.length cy := hF 1 rfl
            exact BigFrame.wp_move _ rfl ⟨_, rfl, e1, Below.refl _ _⟩
          case o10 =>
            refine GdOp.plain rfl (fun A vs w' hF hT hb hd => ?_)
            have e1 : A.eval (.tmp 6) = .int .i64 (k : Int) := hF 6 rfl
            exact BigFrame.wp_move _ rfl ⟨_, rfl, e1, Below.refl _ _⟩
          case o11 =>
            refine GdOp.plain rfl (fun A vs w' hF hT hb hd => ?_)
            have e1 : A.eval (.tmp 29) = .slice (some ⟨b2, o2, none⟩) m.length cy := (hT 29 9 (by simp) rfl).trans (hd ⟨9, .data⟩ (by simp) rfl)
            have e2 : A.eval (.tmp 30) = .int .i64 (k : Int) := (hT 30 10 (by simp) rfl).trans (hd ⟨10, .data⟩ (by simp) rfl)
            exact wp_ixN (e := 43) rfl (by kernel_rfl) (by kernel_rfl) (e1) (e2) rfl (by omega) ⟨_, rfl, rfl, Below.refl _ _⟩
          case o12 =>
            refine GdOp.plain rfl (fun A vs w' hF hT hb hd => ?_)
            have e1 : A.eval (.tmp 31) = .pointer (some ⟨b2, o2 + k * 4, none⟩) := (hT 31 11 (by simp) rfl).trans (hd ⟨11, .data⟩ (by simp) rfl)
            exact wp_fieldN wrS rfl (e1) (by omega) ⟨_, rfl, rfl, Below.refl _ _⟩
          case o13 =>
            refine GdOp.plain rfl (fun A vs w' hF hT hb hd => ?_)
            have e1 : A.eval (.tmp 32) = .pointer (some ⟨b2, o2 + k * 4 + 1, none⟩) := (hT 32 12 (by simp) rfl).trans (hd ⟨12, .data⟩ (by simp) rfl)
            exact wp_ld_slice (e := 5) rfl e1 (by kernel_rfl) (((hb.cell (p := ⟨_, _, none⟩) (cell_lt d1)).trans d1)) ⟨_, rfl, rfl, Below.refl _ _⟩
          case o14 =>
            refine GdOp.plain rfl (fun A vs w' hF hT hb hd => ?_)
            have e1 : A.eval (.tmp 23) = .agg #[.int .i64 s.table, .slice A1 s.lo.length A2, .slice A3 s.hi.length A4, .bool s.isOpen] := (hT 23 3 (by simp) rfl).trans (hd ⟨3, .data⟩ (by simp) rfl)
            have e2 : A.eval (.tmp 28) = .int .i64 x.table := (hT 28 8 (by simp) rfl).trans (hd ⟨8, .data⟩ (by simp) rfl)
            have e3 : A.eval (.tmp 33) = .slice B1 x.key.length B2 := (hT 33 13 (by simp) rfl).trans (hd ⟨13, .data⟩ (by simp) rfl)
            refine wp_callFn rfl eI (args := #[.agg #[.int .i64 s.table, .slice A1 s.lo.length A2, .slice A3 s.hi.length A4, .bool s.isOpen], .int .i64 x.table, .slice B1 x.key.length B2]) (by simp only [List.map_toArray, List.map_cons, List.map_nil, e1, e2, e3]) ((rIn_any w' (hs.below hb) (hk.below hb)).mono ?_)
            rintro e w2 ⟨rfl, hb2⟩
            exact ⟨_, rfl, _, rfl, rfl, hb2⟩
          case o15 =>
            refine GdOp.plain rfl (fun A vs w' hF hT hb hd => ?_)
            have e1 : A.eval (.tmp 34) = .bool (inT s x.table x.key) := (hT 34 14 (by simp) rfl).trans (hd ⟨14, .data⟩ (by simp) rfl)
            exact BigFrame.wp_assign _ rfl ⟨_, rfl, e1, Below.refl _ _⟩
          case fin =>
          intro vs9 W9 hb9 hG9
          have e0 : vs9 0 = .slice (some ⟨b1, o1, none⟩) l.length cx := hG9 0 (by decide)
          have e1 : vs9 1 = .int .i64 (i : Int) := hG9 1 (by decide)
          have e2 : vs9 2 = .pointer (some ⟨b1, o1 + i * 4, none⟩) := hG9 2 (by decide)
          have e3 : vs9 3 = .agg #[.int .i64 s.table, .slice A1 s.lo.length A2, .slice A3 s.hi.length A4, .bool s.isOpen] := hG9 3 (by decide)
          have e4 : vs9 4 = .slice (some ⟨b2, o2, none⟩) m.length cy := hG9 4 (by decide)
          have e5 : vs9 5 = .int .i64 (k : Int) := hG9 5 (by decide)
          have e6 : vs9 6 = .pointer (some ⟨b2, o2 + k * 4, none⟩) := hG9 6 (by decide)
          have e7 : vs9 7 = .pointer (some ⟨b2, o2 + k * 4, none⟩) := hG9 7 (by decide)
          have e8 : vs9 8 = .int .i64 x.table := hG9 8 (by decide)
          have e9 : vs9 9 = .slice (some ⟨b2, o2, none⟩) m.length cy := hG9 9 (by decide)
          have e10 : vs9 10 = .int .i64 (k : Int) := hG9 10 (by decide)
          have e11 : vs9 11 = .pointer (some ⟨b2, o2 + k * 4, none⟩) := hG9 11 (by decide)
          have e12 : vs9 12 = .pointer (some ⟨b2, o2 + k * 4 + 1, none⟩) := hG9 12 (by decide)
          have e13 : vs9 13 = .slice B1 x.key.length B2 := hG9 13 (by decide)
          have e14 : vs9 14 = .bool (inT s x.table x.key) := hG9 14 (by decide)
          have e15 : vs9 15 = .bool (inT s x.table x.key) := hG9 15 (by decide)
          simp only [putAll, e0, e1, e2, e3, e4, e5, e6, e7, e8, e9, e10, e11, e12, e13, e14, e15]
          clear hG9 e0 e1 e2 e3 e4 e5 e6 e7 e8 e9 e10 e11 e12 e13 e14 e15
          replace q := q.trans (hb9.mono q.size)
          clear hb9
          go_simp
          clear c0 c1 c2 c3 d0 d1 hs hk
          cases hi : inT s x.table x.key with
          | true =>
            have HK := Lib.hid (hyes.out hi)
            clear hi hnext hyes hno hall
            go_wp2_with fail
            go_ret
            exact ⟨by first | (rw [HK.out]; done) | (rw [HK.out]; rfl), q⟩
          | false =>
            have hn2 := Lib.hid (hnext.out hi)
            clear hi hnext hyes hno
            go_wp2_with fail
            go_roundw
            case rel => exact ⟨k + 1, by go_num, by omega, by have h := hn2.out; rw [es.out] at h; exact h, q⟩
            case measure => simp [intOf]; omega
        · obtain rfl : k = m.length := by omega
          have dk : decide ((m.length : Int) < (m.length : Int)) = false := decide_eq_false (by omega)
          have hn2 := Lib.hid (all_snoc (P := fun s : Sp => (m.any fun x => inT s x.table x.key) = false) hlt hall.out (List.any_eq_false.2 fun x hx => by
            have := hno.out x (by rw [List.take_length]; exact hx)
            simp [this]))
          clear hno hall
          go_wp2_with fail
          go_roundw
          case rel => exact ⟨i + 1, by go_num, by omega, hn2.out, q⟩
          case measure => simp [intOf]; omega
    · obtain rfl : i = l.length := by omega
      have di : decide ((l.length : Int) < (l.length : Int)) = false := decide_eq_false (by omega)
      have HK := Lib.hid (show (l.any fun s => m.any fun x => inT s x.table x.key) = false from List.any_eq_false.2 fun s hs => by
        have := hall.out s (by rw [List.take_length]; exact hs)
        simp only [this]; simp)
      clear hall
      go_wp2_with fail
      go_ret
      exact ⟨by first | (rw [HK.out]; done) | (rw [HK.out]; rfl), q⟩
set_option maxRecDepth 100000 in
set_option maxHeartbeats 8000000 in
theorem rSameW_any (w : World) {S S2 : Nat → Prop} {a a2 : Option Addr} {n cx n2 cy : Nat} {l m : List Wr} (hl : RdL Elt.wr S w (.slice a n cx) l) (hm : RdL Elt.wr S2 w (.slice a2 n2 cy) m) :
    Calls Try.prog 19 #[.slice a n cx, .slice a2 n2 cy] w fun e w' => e = .returned (.bool (sameW l m)) ∧ Below w.heap.size w w' := by
  obtain ⟨rfl, hnc, hcm⟩ := hl.len
  have hlm : l.length ≤ 9223372036854775807 := by unfold maxLen at hcm; omega
  obtain ⟨rfl, hnc2, hcm2⟩ := hm.len
  have hmm : m.length ≤ 9223372036854775807 := by unfold maxLen at hcm2; omega
  have q := Below.refl w.heap.size w
  clear hnc hnc2 hcm hcm2
  go_enter Try.func19, Try.ntmps19
  go_upto_region 2 with (fail)
  go_loopw [5] (fun iv wr => ∃ (i : Nat), iv = .int .i64 i ∧ i ≤ l.length ∧ (∀ x ∈ l.take i, (m.any fun y => eqW x y) = false) ∧ Below w.heap.size w wr) (fun i _ => l.length - (intOf i).toNat)
  case atStart => exact ⟨0, rfl, Nat.zero_le _, by simp, q⟩
  case round =>
    clear q
    obtain ⟨i, rfl, hil, hall, q⟩ := hrel
    replace hall := Lib.hid hall
    rcases Nat.lt_or_ge i l.length with hlt | hge
    · have di : decide ((i : Int) < (l.length : Int)) = true := decide_eq_true (by omega)
      go_upto_region 5 with (fail)
      go_loopw [6] (fun kv wr => ∃ (k : Nat), kv = .int .i64 k ∧ k ≤ m.length ∧ (∀ y ∈ m.take k, eqW l[i] y = false) ∧ Below w.heap.size w wr) (fun i _ => m.length - (intOf i).toNat)
      case atStart => exact ⟨0, rfl, Nat.zero_le _, by simp, q⟩
      case round =>
        clear q
        obtain ⟨k, rfl, hkm, hno, q⟩ := hrel
        replace hno := Lib.hid hno
        rcases Nat.lt_or_ge k m.length with hlm2 | hge
        · have dk : decide ((k : Int) < (m.length : Int)) = true := decide_eq_true (by omega)
          obtain ⟨b1, o1, A1, A2, A3, A4, rfl, _, c0, c1, _, _, hk1, _, _⟩ := (hl.below q).wr i hlt
          obtain ⟨b2, o2, B1, B2, B3, B4, rfl, _, d0, d1, _, _, hk2, _, _⟩ := (hm.below q).wr k hlm2
          have r1 := hk1.rd
          have r2 := hk2.rd
          clear hk1 hk2
          by_cases e0 : l[i].table = m[k].table
          · have t0 : (l[i].table == m[k].table) = true := beq_iff_eq.2 e0
            have t1 : decide (l[i].table = m[k].table) = true := decide_eq_true e0
            by_cases e1 : l[i].key = m[k].key
            · have t2 : ((strOf l[i].key).toList == (strOf m[k].key).toList) = true := str_eqD.trans (decide_eq_true e1)
              have HK := Lib.hid (show sameW l m = true from List.any_eq_true.2 ⟨_, List.getElem_mem hlt, List.any_eq_true.2 ⟨_, List.getElem_mem hlm2, by unfold eqW; rw [decide_eq_true e0, decide_eq_true e1]; rfl⟩⟩)
              clear e0 e1 hno hall
              go_upto_region 7 with (fail)
              refine wp_region_quiet_lit (by kernel_rfl) (by kernel_rfl) ?_
              repeat (first | go_big_quiet_step (fail) | (go_big_quiet_want; refine quiet_conv byP rfl rfl r1 ?_; go_big_quiet_on; go_simp) | (go_big_quiet_want; refine quiet_conv byP rfl rfl r2 ?_; go_big_quiet_on; go_simp))
              first | (refine wpQuiet_nil ?_; intro _ hw'; obtain ⟨nq, hw''⟩ := hw'; subst hw'') | intro nq
              go_wp2_with fail
              go_ret
              exact ⟨by first | (rw [HK.out]; done) | (rw [HK.out]; rfl), Below.drewN q _⟩
            · have t2 : ((strOf l[i].key).toList == (strOf m[k].key).toList) = false := str_eqD.trans (decide_eq_false e1)
              have hn2 := Lib.hid (all_snoc (P := fun y : Wr => eqW l[i] y = false) hlm2 hno.out (by unfold eqW; rw [decide_eq_false e1, Bool.and_false]))
              clear e0 e1 hno
              go_upto_region 7 with (fail)
              refine wp_region_quiet_lit (by kernel_rfl) (by kernel_rfl) ?_
              repeat (first | go_big_quiet_step (fail) | (go_big_quiet_want; refine quiet_conv byP rfl rfl r1 ?_; go_big_quiet_on; go_simp) | (go_big_quiet_want; refine quiet_conv byP rfl rfl r2 ?_; go_big_quiet_on; go_simp))
              first | (refine wpQuiet_nil ?_; intro _ hw'; obtain ⟨nq, hw''⟩ := hw'; subst hw'') | intro nq
              go_wp2_with fail
              go_roundw
              case rel => exact ⟨k + 1, by go_num, by omega, hn2.out, Below.drewN q _⟩
              case measure => simp [intOf]; omega
          · have t0 : (l[i].table == m[k].table) = false := beq_eq_false_iff_ne.2 e0
            have t1 : decide (l[i].table = m[k].table) = false := decide_eq_false e0
            have hn2 := Lib.hid (all_snoc (P := fun y : Wr => eqW l[i] y = false) hlm2 hno.out (by unfold eqW; rw [decide_eq_false e0, Bool.false_and]))
            clear e0 hno
            go_upto_region 7 with (fail)
            refine wp_region_quiet_lit (by kernel_rfl) (by kernel_rfl) ?_
            repeat (first | go_big_quiet_step (fail) | (go_big_quiet_want; refine quiet_conv byP rfl rfl r1 ?_; go_big_quiet_on; go_simp) | (go_big_quiet_want; refine quiet_conv byP rfl rfl r2 ?_; go_big_quiet_on; go_simp))
            first | (refine wpQuiet_nil ?_; intro _ hw'; obtain ⟨nq, hw''⟩ := hw'; subst hw'') | intro nq
            go_wp2_with fail
            go_roundw
            case rel => exact ⟨k + 1, by go_num, by omega, hn2.out, Below.drewN q _⟩
            case measure => simp [intOf]; omega
        · obtain rfl : k = m.length := by omega
          have dk : decide ((m.length : Int) < (m.length : Int)) = false := decide_eq_false (by omega)
          have hn2 := Lib.hid (all_snoc (P := fun x : Wr => (m.any fun y => eqW x y) = false) hlt hall.out (List.any_eq_false.2 fun x hx => by
            have := hno.out x (by rw [List.take_length]; exact hx)
            simp [this]))
          clear hno hall
          go_wp2_with fail
          go_roundw
          case rel => exact ⟨i + 1, by go_num, by omega, hn2.out, q⟩
          case measure => simp [intOf]; omega
    · obtain rfl : i = l.length := by omega
      have di : decide ((l.length : Int) < (l.length : Int)) = false := decide_eq_false (by omega)
      have HK := Lib.hid (show sameW l m = false from List.any_eq_false.2 fun s hs => by
        have := hall.out s (by rw [List.take_length]; exact hs)
        simp only [this]; simp)
      clear hall
      go_wp2_with fail
      go_ret
      exact ⟨by first | (rw [HK.out]; done) | (rw [HK.out]; rfl), q⟩
end Go.Proofs.Ytmcleffpjfeegaa
namespace Go.Proofs.Ytmcleffpjfeegaa
open Go.RowKit Go.Shelf
set_option maxRecDepth 100000 in
set_option maxHeartbeats 8000000 in
theorem rOneP_any (w : World) {S S2 : Nat → Prop} {u v : Value} {x y : Ps} (hx : RdPs S w u x) (hy : RdPs S2 w v y) :
    Calls Try.prog 21 #[u, v] w fun e w' => e = .returned (.bool (decide (x = y))) ∧ Below w.heap.size w w' := by
  obtain ⟨a1, a2, a3, a4, rfl, hxr, hxw, _⟩ := hx
  obtain ⟨b1, b2, b3, b4, rfl, hyr, hyw, _⟩ := hy
  obtain ⟨W, hW, q, Bx, By, hsz⟩ := spBoxes2 w 49 49 [.int .i64 x.snap, .int .i64 x.stamp, .bool x.held, .slice a1 x.reads.length a2, .slice a3 x.writes.length a4, .bool x.out] [.int .i64 y.snap, .int .i64 y.stamp, .bool y.held, .slice b1 y.reads.length b2, .slice b3 y.writes.length b4, .bool y.out]
  clear hsz
  go_enter Try.func21, Try.ntmps21
  go_upto_region 1 with (fail)
  rw [show (w.alloc (.cells #[.int .i64 x.snap, .int .i64 x.stamp, .bool x.held, .slice a1 x.reads.length a2, .slice a3 x.writes.length a4, .bool x.out] 49)).alloc (.cells #[.int .i64 y.snap, .int .i64 y.stamp, .bool y.held, .slice b1 y.reads.length b2, .slice b3 y.writes.length b4, .bool y.out] 49) = W from hW.symm]
  clear hW
  have c3 := Bx.cell (i := 3) rfl
  have d3 := By.cell (i := 3) rfl
  go_wp2_with fail
  refine (rSame_any W (hxr.below q) (hyr.below q)).mono ?_
  rintro e w1 ⟨rfl, hb⟩
  clear c3 d3
  replace Bx := Bx.below hb Bx.lt
  replace By := By.below hb By.lt
  replace q := q.trans (hb.mono q.size)
  clear hb
  by_cases h0 : x.reads = y.reads
  case neg =>
    have HK := Lib.hid (show decide (x = y) = false from decide_eq_false fun h => h0 (by rw [h]))
    rw [decide_eq_false h0]
    clear h0
    go_wp2_with fail
    go_ret
    exact ⟨by first | (rw [HK.out]; done) | (rw [HK.out]; rfl), q⟩
  rw [decide_eq_true h0]
  have c4 := Bx.cell (i := 4) rfl
  have d4 := By.cell (i := 4) rfl
  go_wp2_with fail
  refine (refWrites_any w1 (hxw.below q) (hyw.below q)).mono ?_
  rintro e w2 ⟨rfl, hb⟩
  clear c4 d4
  replace Bx := Bx.below hb Bx.lt
  replace By := By.below hb By.lt
  replace q := q.trans (hb.mono q.size)
  clear hb
  by_cases h1 : x.writes = y.writes
  case neg =>
    have HK := Lib.hid (show decide (x = y) = false from decide_eq_false fun h => h1 (by rw [h]))
    rw [decide_eq_false h1]
    clear h0 h1
    go_wp2_with fail
    go_ret
    exact ⟨by first | (rw [HK.out]; done) | (rw [HK.out]; rfl), q⟩
  rw [decide_eq_true h1]
  have c0 := Bx.cell (i := 0) rfl
  have c1 := Bx.cell (i := 1) rfl
  have c2 := Bx.cell (i := 2) rfl
  have c5 := Bx.cell (i := 5) rfl
  have d0 := By.cell (i := 0) rfl
  have d1 := By.cell (i := 1) rfl
  have d2 := By.cell (i := 2) rfl
  have d5 := By.cell (i := 5) rfl
  by_cases h2 : x.snap = y.snap
  · have da2 : (x.snap == y.snap) = true := beq_iff_eq.2 h2
    have db2 : decide (x.snap = y.snap) = true := decide_eq_true h2
    by_cases h3 : x.stamp = y.stamp
    · have da3 : (x.stamp == y.stamp) = true := beq_iff_eq.2 h3
      have db3 : decide (x.stamp = y.stamp) = true := decide_eq_true h3
      by_cases h4 : x.held = y.held
      · have da4 : (x.held == y.held) = true := beq_iff_eq.2 h4
        have db4 : decide (x.held = y.held) = true := decide_eq_true h4
        by_cases h5 : x.out = y.out
        · have da5 : (x.out == y.out) = true := beq_iff_eq.2 h5
          have db5 : decide (x.out = y.out) = true := decide_eq_true h5
          have HK := Lib.hid (show decide (x = y) = true from decide_eq_true (by cases x; cases y; simp_all))
          clear h0 h1 h2 h3 h4 h5
          go_wp2_with fail
          go_ret
          exact ⟨by first | (rw [HK.out]; done) | (rw [HK.out]; rfl), q⟩
        · have HK := Lib.hid (show decide (x = y) = false from decide_eq_false fun h => h5 (by rw [h]))
          have da5 : (x.out == y.out) = false := beq_eq_false_iff_ne.2 h5
          have db5 : decide (x.out = y.out) = false := decide_eq_false h5
          clear h0 h1 h2 h3 h4 h5
          go_wp2_with fail
          go_ret
          exact ⟨by first | (rw [HK.out]; done) | (rw [HK.out]; rfl), q⟩
      · have HK := Lib.hid (show decide (x = y) = false from decide_eq_false fun h => h4 (by rw [h]))
        have da4 : (x.held == y.held) = false := beq_eq_false_iff_ne.2 h4
        have db4 : decide (x.held = y.held) = false := decide_eq_false h4
        clear h0 h1 h2 h3 h4
        go_wp2_with fail
        go_ret
        exact ⟨by first | (rw [HK.out]; done) | (rw [HK.out]; rfl), q⟩
    · have HK := Lib.hid (show decide (x = y) = false from decide_eq_false fun h => h3 (by rw [h]))
      have da3 : (x.stamp == y.stamp) = false := beq_eq_false_iff_ne.2 h3
      have db3 : decide (x.stamp = y.stamp) = false := decide_eq_false h3
      clear h0 h1 h2 h3
      go_wp2_with fail
      go_ret
      exact ⟨by first | (rw [HK.out]; done) | (rw [HK.out]; rfl), q⟩
  · have HK := Lib.hid (show decide (x = y) = false from decide_eq_false fun h => h2 (by rw [h]))
    have da2 : (x.snap == y.snap) = false := beq_eq_false_iff_ne.2 h2
    have db2 : decide (x.snap = y.snap) = false := decide_eq_false h2
    clear h0 h1 h2
    go_wp2_with fail
    go_ret
    exact ⟨by first | (rw [HK.out]; done) | (rw [HK.out]; rfl), q⟩
set_option maxRecDepth 100000 in
set_option maxHeartbeats 8000000 in
theorem rAllP_any (w : World) {S S2 : Nat → Prop} {a a2 : Option Addr} {n cx n2 cy : Nat} {l m : List Ps} (hl : RdL Elt.ps S w (.slice a n cx) l) (hm : RdL Elt.ps S2 w (.slice a2 n2 cy) m) :
    Calls Try.prog 13 #[.slice a n cx, .slice a2 n2 cy] w fun e w' => e = .returned (.bool (decide (l = m))) ∧ Below w.heap.size w w' := by
  obtain ⟨rfl, hnc, hcm⟩ := hl.len
  have hlm : l.length ≤ 9223372036854775807 := by unfold maxLen at hcm; omega
  obtain ⟨rfl, hnc2, hcm2⟩ := hm.len
  have hmm : m.length ≤ 9223372036854775807 := by unfold maxLen at hcm2; omega
  have q := Below.refl w.heap.size w
  have eO : ∀ args w, (callFunc 21 args).run Try.prog w = .ok (.enter 21 args) w := enters_of Try.func21 (by kernel_rfl) rfl
  clear hnc hnc2 hcm hcm2
  go_enter Try.func13, Try.ntmps13
  by_cases hlen : l.length = m.length
  case neg =>
    have d1 : ((l.length : Int) == (m.length : Int)) = false := beq_eq_false_iff_ne.2 (by omega)
    have d2 : (l.length == m.length) = false := beq_eq_false_iff_ne.2 hlen
    have d3 : ((l.length : Int) != (m.length : Int)) = true := bne_iff_ne.2 (by omega)
    have HK := Lib.hid (show decide (l = m) = false from decide_eq_false fun h => hlen (by rw [h]))
    clear hlen
    go_wp2_with fail
    go_ret
    exact ⟨by first | (rw [HK.out]; done) | (rw [HK.out]; rfl), q⟩
  have d1 : ((l.length : Int) == (m.length : Int)) = true := beq_iff_eq.2 (by omega)
  have d2 : (l.length == m.length) = true := beq_iff_eq.2 hlen
  have d3 : ((l.length : Int) != (m.length : Int)) = false := by rw [bne, d1]; rfl
  replace hlen := Lib.hid hlen
  go_upto_region 4 with (fail)
  clear d1 d2 d3
  go_loopw [5] (fun iv wr => ∃ (k : Nat), iv = .int .i64 k ∧ k ≤ l.length ∧ l.take k = m.take k ∧ Below w.heap.size w wr)
    (fun i _ => l.length - (intOf i).toNat)
  case atStart => exact ⟨0, rfl, Nat.zero_le _, by simp, q⟩
  case round =>
    clear q
    obtain ⟨k, rfl, hkl, hall, q⟩ := hrel
    replace hall := Lib.hid hall
    rcases Nat.lt_or_ge k l.length with hlt | hge
    · have hltm : k < m.length := by have := hlen.out; omega
      have dk : decide ((k : Int) < (l.length : Int)) = true := decide_eq_true (by omega)
      obtain ⟨g1, o1, A1, A2, A3, A4, rfl, _, hhc, hk1, hk2, hw64⟩ := (hl.below q).ps k hlt
      obtain ⟨g2, o2, B1, B2, B3, B4, rfl, _, hhd, hk3, hk4, hw65⟩ := (hm.below q).ps k hltm
      have hx : RdPs S wr (.agg #[.int .i64 l[k].snap, .int .i64 l[k].stamp, .bool l[k].held, .slice A1 l[k].reads.length A2, .slice A3 l[k].writes.length A4, .bool l[k].out]) l[k] := ⟨_, _, _, _, rfl, hk1, hk2, hw64⟩
      have hy : RdPs S2 wr (.agg #[.int .i64 m[k].snap, .int .i64 m[k].stamp, .bool m[k].held, .slice B1 m[k].reads.length B2, .slice B3 m[k].writes.length B4, .bool m[k].out]) m[k] := ⟨_, _, _, _, rfl, hk3, hk4, hw65⟩
      have hyes := Lib.hid (fun he : l[k] = m[k] => take_bothS hlt hltm hall.out he)
      have hno := Lib.hid (fun he : l[k] ≠ m[k] => show decide (l = m) = false from decide_eq_false fun h => he (by subst h; rfl))
      replace hhc := cells6 hhc
      replace hhd := cells6 hhd
      obtain ⟨x, ex⟩ : ∃ x, x = l[k] := ⟨_, rfl⟩
      obtain ⟨y, ey⟩ : ∃ y, y = m[k] := ⟨_, rfl⟩
      rw [← ex] at hhc hx hyes hno
      rw [← ey] at hhd hy hyes hno
      clear hk1 hk2 hk3 hk4 ex ey hw64 hw65 hall
      go_upto_region 6 with (fail)
      refine wp_region_gsg (by kernel_rfl) (by kernel_rfl) [sgEq (.slice (some ⟨g1, o1, none⟩) l.length cx), sgEq (.int .i64 (k : Int)), sgEq (.pointer (some ⟨g1, o1 + k * 6, none⟩)), sgEq (.agg #[.int .i64 x.snap, .int .i64 x.stamp, .bool x.held, .slice A1 x.reads.length A2, .slice A3 x.writes.length A4, .bool x.out]), sgEq (.slice (some ⟨g2, o2, none⟩) m.length cy), sgEq (.int .i64 (k : Int)), sgEq (.pointer (some ⟨g2, o2 + k * 6, none⟩)), sgEq (.agg #[.int .i64 y.snap, .int .i64 y.stamp, .bool y.held, .slice B1 y.reads.length B2, .slice B3 y.writes.length B4, .bool y.out]), sgEq (.bool (decide (x = y))), sgEq (.bool (decide (x = y)))]
        ⟨?o0, ?o1, ?o2, ?o3, ?o4, ?o5, ?o6, ?o7, ?o8, ?o9, trivial⟩ ?fin
      case o0 =>
        refine GdOp.plain rfl (fun A vs w' hF hT hb hd => ?_)
        have e1 : A.eval (.tmp 0) = .slice (some ⟨g1, o1, none⟩) l.length cx := hF 0 rfl
        exact BigFrame.wp_move _ rfl ⟨_, rfl, e1, Below.refl _ _⟩
      case o1 =>
        refine GdOp.plain rfl (fun A vs w' hF hT hb hd => ?_)
        have e1 : A.eval (.tmp 5) = .int .i64 (k : Int) := hF 5 rfl
        exact BigFrame.wp_move _ rfl ⟨_, rfl, e1, Below.refl _ _⟩
      case o2 =>
        refine GdOp.plain rfl (fun A vs w' hF hT hb hd => ?_)
        have e1 : A.eval (.tmp 18) = .slice (some ⟨g1, o1, none⟩) l.length cx := (hT 18 0 (by simp) rfl).trans (hd ⟨0, .data⟩ (by simp) rfl)
        have e2 : A.eval (.tmp 19) = .int .i64 (k : Int) := (hT 19 1 (by simp) rfl).trans (hd ⟨1, .data⟩ (by simp) rfl)
        exact wp_ixN (e := 49) rfl (by kernel_rfl) (by kernel_rfl) (e1) (e2) rfl (by omega) ⟨_, rfl, rfl, Below.refl _ _⟩
      case o3 =>
        refine GdOp.plain rfl (fun A vs w' hF hT hb hd => ?_)
        have e1 : A.eval (.tmp 20) = .pointer (some ⟨g1, o1 + k * 6, none⟩) := (hT 20 2 (by simp) rfl).trans (hd ⟨2, .data⟩ (by simp) rfl)
        exact wp_loadN (us := [.int .i64 x.snap, .int .i64 x.stamp, .bool x.held, .slice A1 x.reads.length A2, .slice A3 x.writes.length A4, .bool x.out]) psS rfl e1 (fun j u hj => (hb.cell (p := ⟨_, _, none⟩) (cell_lt (hhc j u hj))).trans (hhc j u hj)) ⟨_, rfl, rfl, Below.refl _ _⟩
      case o4 =>
        refine GdOp.plain rfl (fun A vs w' hF hT hb hd => ?_)
        have e1 : A.eval (.tmp 1) = .slice (some ⟨g2, o2, none⟩) m.length cy := hF 1 rfl
        exact BigFrame.wp_move _ rfl ⟨_, rfl, e1, Below.refl _ _⟩
      case o5 =>
        refine GdOp.plain rfl (fun A vs w' hF hT hb hd => ?_)
        have e1 : A.eval (.tmp 5) = .int .i64 (k : Int) := hF 5 rfl
        exact BigFrame.wp_move _ rfl ⟨_, rfl, e1, Below.refl _ _⟩
      case o6 =>
        refine GdOp.plain rfl (fun A vs w' hF hT hb hd => ?_)
        have e1 : A.eval (.tmp 22) = .slice (some ⟨g2, o2, none⟩) m.length cy := (hT 22 4 (by simp) rfl).trans (hd ⟨4, .data⟩ (by simp) rfl)
        have e2 : A.eval (.tmp 23) = .int .i64 (k : Int) := (hT 23 5 (by simp) rfl).trans (hd ⟨5, .data⟩ (by simp) rfl)
        exact wp_ixN (e := 49) rfl (by kernel_rfl) (by kernel_rfl) (e1) (e2) rfl (by omega) ⟨_, rfl, rfl, Below.refl _ _⟩
      case o7 =>
        refine GdOp.plain rfl (fun A vs w' hF hT hb hd => ?_)
        have e1 : A.eval (.tmp 24) = .pointer (some ⟨g2, o2 + k * 6, none⟩) := (hT 24 6 (by simp) rfl).trans (hd ⟨6, .data⟩ (by simp) rfl)
        exact wp_loadN (us := [.int .i64 y.snap, .int .i64 y.stamp, .bool y.held, .slice B1 y.reads.length B2, .slice B3 y.writes.length B4, .bool y.out]) psS rfl e1 (fun j u hj => (hb.cell (p := ⟨_, _, none⟩) (cell_lt (hhd j u hj))).trans (hhd j u hj)) ⟨_, rfl, rfl, Below.refl _ _⟩
      case o8 =>
        refine GdOp.plain rfl (fun A vs w' hF hT hb hd => ?_)
        have e1 : A.eval (.tmp 21) = .agg #[.int .i64 x.snap, .int .i64 x.stamp, .bool x.held, .slice A1 x.reads.length A2, .slice A3 x.writes.length A4, .bool x.out] := (hT 21 3 (by simp) rfl).trans (hd ⟨3, .data⟩ (by simp) rfl)
        have e2 : A.eval (.tmp 25) = .agg #[.int .i64 y.snap, .int .i64 y.stamp, .bool y.held, .slice B1 y.reads.length B2, .slice B3 y.writes.length B4, .bool y.out] := (hT 25 7 (by simp) rfl).trans (hd ⟨7, .data⟩ (by simp) rfl)
        refine wp_callFn rfl eO (args := #[.agg #[.int .i64 x.snap, .int .i64 x.stamp, .bool x.held, .slice A1 x.reads.length A2, .slice A3 x.writes.length A4, .bool x.out], .agg #[.int .i64 y.snap, .int .i64 y.stamp, .bool y.held, .slice B1 y.reads.length B2, .slice B3 y.writes.length B4, .bool y.out]]) (by simp only [List.map_toArray, List.map_cons, List.map_nil, e1, e2]) ((rOneP_any w' (hx.below hb) (hy.below hb)).mono ?_)
        rintro e w2 ⟨rfl, hb2⟩
        exact ⟨_, rfl, _, rfl, rfl, hb2⟩
      case o9 =>
        refine GdOp.plain rfl (fun A vs w' hF hT hb hd => ?_)
        have e1 : A.eval (.tmp 26) = .bool (decide (x = y)) := (hT 26 8 (by simp) rfl).trans (hd ⟨8, .data⟩ (by simp) rfl)
        exact BigFrame.wp_assign _ rfl ⟨_, rfl, e1, Below.refl _ _⟩
      case fin =>
      intro vs9 W9 hb9 hG9
      have e0 : vs9 0 = .slice (some ⟨g1, o1, none⟩) l.length cx := hG9 0 (by decide)
      have e1 : vs9 1 = .int .i64 (k : Int) := hG9 1 (by decide)
      have e2 : vs9 2 = .pointer (some ⟨g1, o1 + k * 6, none⟩) := hG9 2 (by decide)
      have e3 : vs9 3 = .agg #[.int .i64 x.snap, .int .i64 x.stamp, .bool x.held, .slice A1 x.reads.length A2, .slice A3 x.writes.length A4, .bool x.out] := hG9 3 (by decide)
      have e4 : vs9 4 = .slice (some ⟨g2, o2, none⟩) m.length cy := hG9 4 (by decide)
      have e5 : vs9 5 = .int .i64 (k : Int) := hG9 5 (by decide)
      have e6 : vs9 6 = .pointer (some ⟨g2, o2 + k * 6, none⟩) := hG9 6 (by decide)
      have e7 : vs9 7 = .agg #[.int .i64 y.snap, .int .i64 y.stamp, .bool y.held, .slice B1 y.reads.length B2, .slice B3 y.writes.length B4, .bool y.out] := hG9 7 (by decide)
      have e8 : vs9 8 = .bool (decide (x = y)) := hG9 8 (by decide)
      have e9 : vs9 9 = .bool (decide (x = y)) := hG9 9 (by decide)
      simp only [putAll, e0, e1, e2, e3, e4, e5, e6, e7, e8, e9]
      clear hG9 e0 e1 e2 e3 e4 e5 e6 e7 e8 e9
      replace q := q.trans (hb9.mono q.size)
      clear hb9
      go_simp
      clear hx hy hhc hhd
      by_cases he : x = y
      · rw [decide_eq_true he]
        have hall2 := Lib.hid (hyes.out he)
        clear he hyes hno
        go_wp2_with fail
        go_roundw
        case rel => exact ⟨k + 1, by go_num, by omega, hall2.out, q⟩
        case measure => simp [intOf]; omega
      · rw [decide_eq_false he]
        have HK := Lib.hid (hno.out he)
        clear he hyes hno
        go_wp2_with fail
        go_ret
        exact ⟨by first | (rw [HK.out]; done) | (rw [HK.out]; rfl), q⟩
    · obtain rfl : k = l.length := by omega
      have dk : decide ((l.length : Int) < (l.length : Int)) = false := decide_eq_false (by omega)
      have HK := Lib.hid (show decide (l = m) = true from decide_eq_true (by have h := hall.out; rw [List.take_length] at h; rw [hlen.out, List.take_length] at h; exact h))
      clear hall
      go_wp2_with fail
      go_ret
      exact ⟨by first | (rw [HK.out]; done) | (rw [HK.out]; rfl), q⟩
set_option maxRecDepth 100000 in
set_option maxHeartbeats 8000000 in
theorem rFewP_any (w : World) {S S2 : Nat → Prop} {a a2 : Option Addr} {n cx n2 cy : Nat} {l : List Ps} {lv : List Lv} (hl : RdL Elt.ps S w (.slice a n cx) l) (hm : RdL Elt.lv S2 w (.slice a2 n2 cy) lv) :
    Calls Try.prog 9 #[.slice a n cx, .slice a2 n2 cy] w fun e w' => e = .returned (.bool (decide (fewPs l lv))) ∧ Below w.heap.size w w' := by
  obtain ⟨rfl, hnc, hcm⟩ := hl.len
  have hlm : l.length ≤ 9223372036854775807 := by unfold maxLen at hcm; omega
  obtain ⟨rfl, hnc2, hcm2⟩ := hm.len
  have hmm : lv.length ≤ 9223372036854775807 := by unfold maxLen at hcm2; omega
  have q := Below.refl w.heap.size w
  clear hnc hnc2 hcm hcm2
  go_enter Try.func9, Try.ntmps9
  rcases Nat.lt_or_ge 30 l.length with h1 | h1
  · have d1 : decide ((30 : Int) < (l.length : Int)) = true := decide_eq_true (by omega)
    have HK := Lib.hid (show decide (fewPs l lv) = false from decide_eq_false fun h => by have := h.1; omega)
    go_wp2_with fail
    go_ret
    exact ⟨by first | (rw [HK.out]; done) | (rw [HK.out]; rfl), q⟩
  have d1 : decide ((30 : Int) < (l.length : Int)) = false := decide_eq_false (by omega)
  rcases Nat.lt_or_ge 30 lv.length with h2 | h2
  · have d2 : decide ((30 : Int) < (lv.length : Int)) = true := decide_eq_true (by omega)
    have HK := Lib.hid (show decide (fewPs l lv) = false from decide_eq_false fun h => by have := h.2.1; omega)
    go_wp2_with fail
    go_ret
    exact ⟨by first | (rw [HK.out]; done) | (rw [HK.out]; rfl), q⟩
  have d2 : decide ((30 : Int) < (lv.length : Int)) = false := decide_eq_false (by omega)
  go_upto_region 4 with (fail)
  clear d1 d2
  go_loopw [5] (fun iv wr => ∃ (k : Nat), iv = .int .i64 k ∧ k ≤ l.length ∧ (∀ p ∈ l.take k, fewS p.reads ∧ (p.writes.length ≤ 30 ∧ ∀ x ∈ p.writes, x.key.length ≤ 100 ∧ x.val.length ≤ 100) ∧ p.reads.length ≤ 30) ∧ Below w.heap.size w wr)
    (fun i _ => l.length - (intOf i).toNat)
  case atStart => exact ⟨0, rfl, Nat.zero_le _, by simp, q⟩
  case round =>
    clear q
    obtain ⟨k, rfl, hkl, hall, q⟩ := hrel
    replace hall := Lib.hid hall
    rcases Nat.lt_or_ge k l.length with hlt | hge
    · have dk : decide ((k : Int) < (l.length : Int)) = true := decide_eq_true (by omega)
      obtain ⟨g1, o1, A1, A2, A3, A4, rfl, _, ⟨_, _, _, c3, c4, _⟩, hk1, hk2, _⟩ := (hl.below q).ps k hlt
      have hmem := Lib.hid (List.getElem_mem hlt)
      have m1 : l[k].reads.length ≤ 9223372036854775807 := by have := hk1.len; unfold maxLen at this; omega
      go_wp2_with fail
      refine (rFew_any wr hk1).mono ?_
      rintro e w1 ⟨rfl, hb⟩
      have e3 := (hb.cell (p := ⟨_, _, none⟩) (cell_lt c3)).trans c3
      have e4 := (hb.cell (p := ⟨_, _, none⟩) (cell_lt c4)).trans c4
      replace hk2 := hk2.below hb
      replace q := q.trans (hb.mono q.size)
      clear c3 c4 hb hk1
      go_wp2_with fail
      refine (few_any w1 (d := ⟨l[k].writes, []⟩) (S := S) ⟨A3, A4, none, 0, rfl, hk2, RdL.nil _ _ _⟩).mono ?_
      rintro e w2 ⟨rfl, hb⟩
      have c3 := (hb.cell (p := ⟨_, _, none⟩) (cell_lt e3)).trans e3
      replace q := q.trans (hb.mono q.size)
      clear e3 e4 hb hk2
      by_cases f1 : fewS l[k].reads
      case neg =>
        rw [decide_eq_false f1]
        have HK := Lib.hid (show decide (fewPs l lv) = false from decide_eq_false fun h => f1 (h.2.2.1 _ hmem.out).1)
        clear f1 hall
        go_wp2_with fail
        go_ret
        exact ⟨by first | (rw [HK.out]; done) | (rw [HK.out]; rfl), q⟩
      rw [decide_eq_true f1]
      by_cases f2 : fewD ⟨l[k].writes, []⟩
      case neg =>
        rw [decide_eq_false f2]
        have HK := Lib.hid (show decide (fewPs l lv) = false from decide_eq_false fun h => f2 ⟨(h.2.2.1 _ hmem.out).2.1.1, Nat.zero_le _, (h.2.2.1 _ hmem.out).2.1.2⟩)
        clear f1 f2 hall
        go_wp2_with fail
        go_ret
        exact ⟨by first | (rw [HK.out]; done) | (rw [HK.out]; rfl), q⟩
      rw [decide_eq_true f2]
      rcases Nat.lt_or_ge 30 l[k].reads.length with h3 | h3
      · have d3 : decide ((30 : Int) < (l[k].reads.length : Int)) = true := decide_eq_true (by omega)
        have HK := Lib.hid (show decide (fewPs l lv) = false from decide_eq_false fun h => by have := (h.2.2.1 _ hmem.out).2.2; omega)
        clear f1 f2 hall
        go_wp2_with fail
        go_ret
        exact ⟨by first | (rw [HK.out]; done) | (rw [HK.out]; rfl), q⟩
      have d3 : decide ((30 : Int) < (l[k].reads.length : Int)) = false := decide_eq_false (by omega)
      have hall2 := Lib.hid (all_snoc (P := fun p : Ps => fewS p.reads ∧ (p.writes.length ≤ 30 ∧ ∀ x ∈ p.writes, x.key.length ≤ 100 ∧ x.val.length ≤ 100) ∧ p.reads.length ≤ 30) hlt hall.out ⟨f1, ⟨f2.1, f2.2.2⟩, h3⟩)
      clear f1 f2 hall hmem
      go_wp2_with fail
      go_roundw
      case rel => exact ⟨k + 1, by go_num, by omega, hall2.out, q⟩
      case measure => simp [intOf]; omega
    · obtain rfl : k = l.length := by omega
      have dk : decide ((l.length : Int) < (l.length : Int)) = false := decide_eq_false (by omega)
      replace hall := Lib.hid (show ∀ p ∈ l, fewS p.reads ∧ (p.writes.length ≤ 30 ∧ ∀ x ∈ p.writes, x.key.length ≤ 100 ∧ x.val.length ≤ 100) ∧ p.reads.length ≤ 30 from fun p hp => hall.out p (by rw [List.take_length]; exact hp))
      go_upto_region 11 with (fail)
      clear dk
      go_loopw [8] (fun iv wr => ∃ (k : Nat), iv = .int .i64 k ∧ k ≤ lv.length ∧ (∀ p ∈ lv.take k, fewS p.reads ∧ p.reads.length ≤ 30) ∧ Below w.heap.size w wr)
        (fun i _ => lv.length - (intOf i).toNat)
      case atStart => exact ⟨0, rfl, Nat.zero_le _, by simp, q⟩
      case round =>
        clear q
        obtain ⟨k, rfl, hkl, hno, q⟩ := hrel
        replace hno := Lib.hid hno
        rcases Nat.lt_or_ge k lv.length with hlt | hge
        · have dk : decide ((k : Int) < (lv.length : Int)) = true := decide_eq_true (by omega)
          obtain ⟨g1, o1, A1, A2, rfl, _, _, c1, hk1, _⟩ := (hm.below q).lv k hlt
          have hmem := Lib.hid (List.getElem_mem hlt)
          have m1 : lv[k].reads.length ≤ 9223372036854775807 := by have := hk1.len; unfold maxLen at this; omega
          go_wp2_with fail
          refine (rFew_any wr hk1).mono ?_
          rintro e w1 ⟨rfl, hb⟩
          have e1 := (hb.cell (p := ⟨_, _, none⟩) (cell_lt c1)).trans c1
          replace q := q.trans (hb.mono q.size)
          clear c1 hb hk1
          by_cases f1 : fewS lv[k].reads
          case neg =>
            rw [decide_eq_false f1]
            have HK := Lib.hid (show decide (fewPs l lv) = false from decide_eq_false fun h => f1 (h.2.2.2 _ hmem.out).1)
            clear f1 hall
            go_wp2_with fail
            go_ret
            exact ⟨by first | (rw [HK.out]; done) | (rw [HK.out]; rfl), q⟩
          rw [decide_eq_true f1]
          rcases Nat.lt_or_ge 30 lv[k].reads.length with h3 | h3
          · have d3 : decide ((30 : Int) < (lv[k].reads.length : Int)) = true := decide_eq_true (by omega)
            have HK := Lib.hid (show decide (fewPs l lv) = false from decide_eq_false fun h => by have := (h.2.2.2 _ hmem.out).2; omega)
            clear f1 hall
            go_wp2_with fail
            go_ret
            exact ⟨by first | (rw [HK.out]; done) | (rw [HK.out]; rfl), q⟩
          have d3 : decide ((30 : Int) < (lv[k].reads.length : Int)) = false := decide_eq_false (by omega)
          have hn2 := Lib.hid (all_snoc (P := fun p : Lv => fewS p.reads ∧ p.reads.length ≤ 30) hlt hno.out ⟨f1, h3⟩)
          clear f1 hno hmem
          go_wp2_with fail
          go_roundw
          case rel => exact ⟨k + 1, by go_num, by omega, hn2.out, q⟩
          case measure => simp [intOf]; omega
        · obtain rfl : k = lv.length := by omega
          have dk : decide ((lv.length : Int) < (lv.length : Int)) = false := decide_eq_false (by omega)
          have HK := Lib.hid (show decide (fewPs l lv) = true from decide_eq_true ⟨h1, h2, hall.out, fun p hp => hno.out p (by rw [List.take_length]; exact hp)⟩)
          clear hall hno
          go_wp2_with fail
          go_ret
          exact ⟨by first | (rw [HK.out]; done) | (rw [HK.out]; rfl), q⟩
set_option maxRecDepth 100000 in
set_option maxHeartbeats 8000000 in
theorem few13_any (w : World) {S S2 S3 : Nat → Prop} {a a2 a3 : Option Addr} {n cx n2 cy n3 cz : Nat} {l : List Sp} {x y : List Wr} (hl : RdL Elt.sp S w (.slice a n cx) l) (hx : RdL Elt.wr S2 w (.slice a2 n2 cy) x) (hy : RdL Elt.wr S3 w (.slice a3 n3 cz) y) :
    Calls Try.prog 8 #[.slice a n cx, .slice a2 n2 cy, .slice a3 n3 cz] w fun e w' => e = .returned (.bool (decide (fewS l ∧ fewD ⟨x, []⟩ ∧ fewD ⟨y, []⟩))) ∧ Below w.heap.size w w' := by
  obtain ⟨rfl, _, _⟩ := hx.len
  obtain ⟨rfl, _, _⟩ := hy.len
  have q := Below.refl w.heap.size w
  go_enter Try.func8, Try.ntmps8
  go_wp2_with fail
  refine (rFew_any w hl).mono ?_
  rintro e w1 ⟨rfl, hb⟩
  replace q := q.trans (hb.mono q.size)
  clear hb
  by_cases f1 : fewS l
  case neg =>
    rw [decide_eq_false f1]
    have HK := Lib.hid (show decide (fewS l ∧ fewD ⟨x, []⟩ ∧ fewD ⟨y, []⟩) = false from decide_eq_false fun h => f1 h.1)
    clear f1
    go_wp2_with fail
    go_ret
    exact ⟨by first | (rw [HK.out]; done) | (rw [HK.out]; rfl), q⟩
  rw [decide_eq_true f1]
  go_wp2_with fail
  refine (few_any w1 (d := ⟨x, []⟩) (S := S2) ⟨a2, cy, none, 0, rfl, hx.below q, RdL.nil _ _ _⟩).mono ?_
  rintro e w2 ⟨rfl, hb⟩
  replace q := q.trans (hb.mono q.size)
  clear hb
  by_cases f2 : fewD ⟨x, []⟩
  case neg =>
    rw [decide_eq_false f2]
    have HK := Lib.hid (show decide (fewS l ∧ fewD ⟨x, []⟩ ∧ fewD ⟨y, []⟩) = false from decide_eq_false fun h => f2 h.2.1)
    clear f1 f2
    go_wp2_with fail
    go_ret
    exact ⟨by first | (rw [HK.out]; done) | (rw [HK.out]; rfl), q⟩
  rw [decide_eq_true f2]
  go_wp2_with fail
  refine (few_any w2 (d := ⟨y, []⟩) (S := S3) ⟨a3, cz, none, 0, rfl, hy.below q, RdL.nil _ _ _⟩).mono ?_
  rintro e w3 ⟨rfl, hb⟩
  replace q := q.trans (hb.mono q.size)
  clear hb
  have HK := Lib.hid (show decide (fewS l ∧ fewD ⟨x, []⟩ ∧ fewD ⟨y, []⟩) = decide (fewD ⟨y, []⟩) from decide_eq_decide.2 ⟨fun h => h.2.2, fun h => ⟨f1, f2, h⟩⟩)
  clear f1 f2
  go_wp2_with fail
  go_ret
  exact ⟨by first | (rw [HK.out]; done) | (rw [HK.out]; rfl), q⟩
end Go.Proofs.Ytmcleffpjfeegaa
namespace Go.Proofs.Ytmcleffpjfeegaa
open Go.RowKit
structure RdQ (R : (Nat → Prop) → World → Value → Prop) : Prop where
  keep : ∀ {S : Nat → Prop} {w w' : World} {v : Value}, R S w v → (∀ k, S k → w'.heap[k]? = w.heap[k]?) → R S w' v
  weak : ∀ {S S' : Nat → Prop} {w : World} {v : Value}, R S w v → (∀ k, S k → S' k) → R S' w v
structure BxE (R : (Nat → Prop) → World → Value → Prop) (Te : TypeId) (Z : List Value) (mk : Value → List Value) (W : World) (oc ob oa os : Option Value) (w : World) : Prop where
  bl : Below W.heap.size W w
  cl : ∀ u, oc = some u → R (fun k => (W.heap.size ≤ k ∧ k < w.heap.size) ∧ ∀ b, oa = some (.pointer (some ⟨b, 0, none⟩)) → k ≠ b) w u
  bd : ∀ u, ob = some u → ∃ c, oc = some c ∧ u = .agg (mk c).toArray
  al : ∀ u, oa = some u → ∃ b, u = .pointer (some ⟨b, 0, none⟩) ∧ (W.heap.size ≤ b ∧ b < w.heap.size) ∧ (os = none → BoxN w b Te Z) ∧ (os ≠ none → ∃ c, oc = some c ∧ BoxN w b Te (mk c))
  st : os ≠ none → ob ≠ none ∧ oa ≠ none
def BxeL (R : (Nat → Prop) → World → Value → Prop) (Te : TypeId) (Z : List Value) (mk : Value → List Value) (W : World) : List (Option Value) → World → Prop
  | [oc, ob, oa, os], w => BxE R Te Z mk W oc ob oa os w
  | _, _ => False
section
variable {R : (Nat → Prop) → World → Value → Prop} {Te : TypeId} {Z : List Value} {mk : Value → List Value} {W w w2 : World} {oc ob oa os : Option Value}
theorem BxE.start : BxE R Te Z mk W none none none none W :=
  ⟨Below.refl _ _, fun _ h => (by cases h), fun _ h => (by cases h), fun _ h => (by cases h), fun h => absurd rfl h⟩
theorem BxE.more (hR : RdQ R) (h : BxE R Te Z mk W oc ob oa os w) (hb : Below w.heap.size w w2) : BxE R Te Z mk W oc ob oa os w2 where
  bl := h.bl.trans (hb.mono h.bl.size)
  cl u hu := hR.weak (hR.keep (h.cl u hu) fun k hk => hb.block k hk.1.2) fun _ hk => ⟨⟨hk.1.1, Nat.lt_of_lt_of_le hk.1.2 hb.size⟩, hk.2⟩
  bd := h.bd
  al u hu := by
    obtain ⟨b, e, h1, h2, h3⟩ := h.al u hu
    exact ⟨b, e, ⟨h1.1, Nat.lt_of_lt_of_le h1.2 hb.size⟩, fun e => (h2 e).below hb h1.2, fun e => by obtain ⟨c, e2, h4⟩ := h3 e; exact ⟨c, e2, h4.below hb h1.2⟩⟩
  st := h.st
theorem BxeL.more (hR : RdQ R) : ∀ (l : List (Option Value)) (w w' : World), BxeL R Te Z mk W l w → Below w.heap.size w w' → BxeL R Te Z mk W l w'
  | [_, _, _, _], _, _, h, hb => BxE.more hR h hb
theorem BxE.call (hR : RdQ R) (h : BxE R Te Z mk W none ob oa os w) (hb : Below w.heap.size w w2) {u : Value} (hu : R (fun k => w.heap.size ≤ k ∧ k < w2.heap.size) w2 u) : BxE R Te Z mk W (some u) ob oa os w2 := by
  have h0 : ob = none := by
    cases e : ob with
    | none => rfl
    | some v => obtain ⟨_, e2, _⟩ := h.bd v e; cases e2
  have h1 : os = none := by
    cases e : os with
    | none => rfl
    | some v => exact absurd h0 (h.st (by rw [e]; simp)).1
  subst h0 h1
  have h2 := h.more hR hb
  refine ⟨h2.bl, fun v hv => ?_, fun _ e => (by cases e), fun v hv => ?_, h2.st⟩
  · injection hv with hv
    subst hv
    refine hR.weak hu fun k hk => ⟨⟨Nat.le_trans h.bl.size hk.1, hk.2⟩, fun b e => ?_⟩
    obtain ⟨b', e', hb', _⟩ := h.al _ e
    cases e'
    omega
  · obtain ⟨b, e, h3, h4, _⟩ := h2.al v hv
    exact ⟨b, e, h3, h4, fun e => absurd rfl e⟩
theorem BxE.build {c : Value} (h : BxE R Te Z mk W (some c) none oa os w) : BxE R Te Z mk W (some c) (some (.agg (mk c).toArray)) oa os w :=
  ⟨h.bl, h.cl, fun u hu => ⟨c, rfl, by injection hu with hu; exact hu.symm⟩, h.al, fun e => absurd rfl (h.st e).1⟩
theorem BxE.alloc (hR : RdQ R) (h : BxE R Te Z mk W oc ob none os w) (hb : Below w.heap.size w w2) (hlt : w.heap.size < w2.heap.size) (hB : BoxN w2 w.heap.size Te Z) : BxE R Te Z mk W oc ob (some (.pointer (some ⟨w.heap.size, 0, none⟩))) os w2 := by
  have h1 : os = none := by
    cases e : os with
    | none => rfl
    | some v => exact absurd rfl (h.st (by rw [e]; simp)).2
  subst h1
  have h2 := h.more hR hb
  refine ⟨h2.bl, fun v hv => ?_, h.bd, fun v hv => ?_, fun e => absurd rfl e⟩
  · refine hR.weak (hR.keep (h.cl v hv) fun k hk => hb.block k hk.1.2) fun k hk => ⟨⟨hk.1.1, Nat.lt_of_lt_of_le hk.1.2 hb.size⟩, fun b e => ?_⟩
    injection e with e
    injection e with e
    injection e with e
    injection e with e
    have := hk.1.2
    omega
  · injection hv with hv
    exact ⟨_, hv.symm, ⟨h.bl.size, hlt⟩, fun _ => hB, fun e => absurd rfl e⟩
theorem BxE.box {u : Value} (h : BxE R Te Z mk W oc ob (some u) none w) : ∃ b, u = .pointer (some ⟨b, 0, none⟩) ∧ BoxN w b Te Z := by
  obtain ⟨b, e, _, h1, _⟩ := h.al u rfl
  exact ⟨b, e, h1 rfl⟩
theorem BxE.built {u : Value} (h : BxE R Te Z mk W oc (some u) oa os w) : ∃ c, oc = some c ∧ u = .agg (mk c).toArray := h.bd u rfl
theorem BxE.sto (hR : RdQ R) {c u0 s : Value} {b : Nat} (h : BxE R Te Z mk W (some c) (some u0) (some (.pointer (some ⟨b, 0, none⟩))) none w) (hg : w.grownBy w2 (some b)) (hB : BoxN w2 b Te (mk c)) : BxE R Te Z mk W (some c) (some u0) (some (.pointer (some ⟨b, 0, none⟩))) (some s) w2 := by
  obtain ⟨b', e', hb', _⟩ := h.al _ rfl
  cases e'
  refine ⟨h.bl.grown hg h.bl.size fun k e => by injection e with e; omega, fun v hv => ?_, h.bd, fun v hv => ?_, fun _ => ⟨by simp, by simp⟩⟩
  · exact hR.weak (hR.keep (h.cl v hv) fun k hk => hg.block k hk.1.2 fun e => by injection e with e; exact hk.2 b rfl e) fun k hk => ⟨⟨hk.1.1, Nat.lt_of_lt_of_le hk.1.2 hg.size⟩, hk.2⟩
  · injection hv with hv
    exact ⟨b, hv.symm, ⟨hb'.1, Nat.lt_of_lt_of_le hb'.2 hg.size⟩, fun e => (by cases e), fun _ => ⟨c, rfl, hB⟩⟩
theorem BxE.done (hR : RdQ R) {c u0 u1 s : Value} (h : BxE R Te Z mk W (some c) (some u0) (some u1) (some s) w) : u0 = .agg (mk c).toArray ∧ ∃ b, u1 = .pointer (some ⟨b, 0, none⟩) ∧ (W.heap.size ≤ b ∧ b < w.heap.size) ∧ BoxN w b Te (mk c) ∧ R (fun k => (W.heap.size ≤ k ∧ k < w.heap.size) ∧ k ≠ b) w c ∧ Below W.heap.size W w := by
  obtain ⟨c', e, e2⟩ := h.bd _ rfl
  injection e with e
  subst e
  obtain ⟨b, rfl, h1, _, h3⟩ := h.al _ rfl
  obtain ⟨c', e, h4⟩ := h3 (by simp)
  injection e with e
  subst e
  exact ⟨e2, b, rfl, h1, h4, hR.weak (h.cl _ rfl) fun k hk => ⟨hk.1, hk.2 b rfl⟩, h.bl⟩
end
end Go.Proofs.Ytmcleffpjfeegaa
namespace Go.Proofs.Ytmcleffpjfeegaa
open Go.RowKit
structure Twb (w A : World) (r : Option Nat) (b : Nat) : Prop where
  os : A.os = w.os
  tape : A.tape = w.tape
  output : A.output = w.output
  size : w.heap.size ≤ A.heap.size
  block : ∀ k, k < w.heap.size → some k ≠ r → k ≠ b → A.heap[k]? = w.heap[k]?
section
variable {w0 w A B : World} {r : Option Nat} {b : Nat}
theorem Twb.of_below (h : Below w.heap.size w A) : Twb w A r b := ⟨h.os, h.tape, h.output, h.size, fun k hk _ _ => h.block k hk⟩
theorem Twb.below (h : Twb w A r b) (k : Below A.heap.size A B) : Twb w B r b :=
  ⟨k.os.trans h.os, k.tape.trans h.tape, k.output.trans h.output, Nat.le_trans h.size k.size, fun j h1 h2 h3 => (k.block j (Nat.lt_of_lt_of_le h1 h.size)).trans (h.block j h1 h2 h3)⟩
theorem Twb.row (h : Twb w A r b) (k : A.grownBy B r) : Twb w B r b :=
  ⟨k.os.trans h.os, k.tape.trans h.tape, k.output.trans h.output, Nat.le_trans h.size k.size, fun j h1 h2 h3 => (k.block j (Nat.lt_of_lt_of_le h1 h.size) h2).trans (h.block j h1 h2 h3)⟩
theorem Twb.box (h : Twb w A r b) (k : A.grownBy B (some b)) : Twb w B r b :=
  ⟨k.os.trans h.os, k.tape.trans h.tape, k.output.trans h.output, Nat.le_trans h.size k.size, fun j h1 h2 h3 => (k.block j (Nat.lt_of_lt_of_le h1 h.size) (fun e => h3 (by injection e))).trans (h.block j h1 h2 h3)⟩
theorem Twb.refl : Twb w w r b := ⟨rfl, rfl, rfl, Nat.le_refl _, fun _ _ _ _ => rfl⟩
theorem Twb.belowB (h : Twb w A r b) (q : Below w0.heap.size w0 w) (hr : ∀ k, r = some k → w0.heap.size ≤ k) (hb : w0.heap.size ≤ b) : Below w0.heap.size w0 A :=
  ⟨h.os.trans q.os, h.tape.trans q.tape, h.output.trans q.output, Nat.le_trans q.size h.size, fun k hk => (h.block k (Nat.lt_of_lt_of_le hk q.size) (fun e => by have := hr k e.symm; omega) (by omega)).trans (q.block k hk)⟩
theorem Twb.boxN {g : Nat} {t : TypeId} {vs : List Value} (h : Twb w A r b) (hT : BoxN w g t vs) (hr : some g ≠ r) (hb : g ≠ b) : BoxN A g t vs := (h.block g hT.lt hr hb).trans hT
end
def Elt.but {α : Type} (E : Elt α) (b : Nat) : Elt α where
  size := E.size
  pos := E.pos
  R S w x vs := E.R (fun k => S k ∧ k ≠ b) w x vs
  len h := E.len h
  keep h hk := E.keep h fun k h2 => hk k h2.1
  weak h hs := E.weak h fun k h2 => ⟨hs k h2.1, h2.2⟩
  fit h := E.weak (E.fit h) fun _ h2 => ⟨⟨h2.1.1, h2.2⟩, h2.1.2⟩
  one h := E.one h
section
variable {α : Type} {E : Elt α} {Te : TypeId} {base lo : Nat} {b : Nat} {w w' : World} {v : Value} {xs : List α}
theorem Flat.but {S : Nat → Prop} (h : ∀ k, S k → k ≠ b) : ∀ {xs : List α} {vs : List Value}, Flat E S w xs vs → Flat (Elt.but E b) S w xs vs
  | [], _, hf => hf
  | _ :: _, _, ⟨us, ws, e, h1, h2⟩ => ⟨us, ws, e, E.weak h1 fun k hk => ⟨hk, h k hk⟩, Flat.but h h2⟩
theorem Flat.unbut {S : Nat → Prop} : ∀ {xs : List α} {vs : List Value}, Flat (Elt.but E b) S w xs vs → Flat E S w xs vs
  | [], _, hf => hf
  | _ :: _, _, ⟨us, ws, e, h1, h2⟩ => ⟨us, ws, e, E.weak h1 fun _ hk => hk.1, Flat.unbut h2⟩
theorem OwnL.but (h : OwnL E Te base lo w v xs) (hb : ∀ k, lo ≤ k → k < w.heap.size → k ≠ b) : OwnL (Elt.but E b) Te base lo w v xs := by
  obtain ⟨vs, h1, h2⟩ := h
  exact ⟨vs, h1, Flat.but (fun k hk => hb k hk.1 hk.2.1) h2⟩
theorem OwnL.unbut (h : OwnL (Elt.but E b) Te base lo w v xs) : OwnL E Te base lo w v xs := by
  obtain ⟨vs, h1, h2⟩ := h
  exact ⟨vs, h1, Flat.unbut h2⟩
theorem Flat.butKeep {S : Nat → Prop} (hk : ∀ k, S k → k ≠ b → w'.heap[k]? = w.heap[k]?) : ∀ {xs : List α} {vs : List Value}, Flat (Elt.but E b) S w xs vs → Flat (Elt.but E b) S w' xs vs
  | [], _, hf => hf
  | _ :: _, _, ⟨us, ws, e, h1, h2⟩ => ⟨us, ws, e, E.keep h1 fun k h3 => hk k h3.1 h3.2, Flat.butKeep hk h2⟩
theorem OwnL.butOther (h : OwnL (Elt.but E b) Te base lo w v xs) (hg : w.grownBy w' (some b)) (hv : v.ownBlock ≠ some b) : OwnL (Elt.but E b) Te base lo w' v xs := by
  obtain ⟨vs, h1, h2⟩ := h
  refine ⟨vs, h1.kept hg (.inr fun e => hv e), ?_⟩
  exact (Flat.butKeep (fun k hk hb => hg.block k hk.2.1 fun e => by injection e with e; exact hb e) h2).weak fun k hk => ⟨hk.1, Nat.lt_of_lt_of_le hk.2.1 hg.size, hk.2.2⟩
end
def PshJ {α : Type} (E : Elt α) (Te : TypeId) (base lo : Nat) (r : Option Nat) (b : Nat) (t : TypeId) (vs : List Value) (f : Nat) (W : World) (xs : List α) (x : α) : List Value → World → Prop
  | [], V => Below W.heap.size W V
  | [v], V => Below W.heap.size W V ∧ ∃ us : List Value, v.cells = us.toArray ∧ E.R (fun k => W.heap.size ≤ k ∧ k < V.heap.size) V x us
  | [_, s], V => Twb W V r b ∧ ∃ ad c, s = .slice ad (xs ++ [x]).length c ∧ OwnL (Elt.but E b) Te base lo V (.slice ad (xs ++ [x]).length c) (xs ++ [x]) ∧ BoxN V b t vs ∧ Value.ownBlock (.slice ad (xs ++ [x]).length c) ≠ some b
  | _, V => Twb W V r b ∧ ∃ ad c, OwnL (Elt.but E b) Te base lo V (.slice ad (xs ++ [x]).length c) (xs ++ [x]) ∧ BoxN V b t (vs.set f (.slice ad (xs ++ [x]).length c)) ∧ Value.ownBlock (.slice ad (xs ++ [x]).length c) ≠ some b
section
variable {α : Type} {E : Elt α} {Te : TypeId} {base lo : Nat} {r : Option Nat} {b : Nat} {t : TypeId} {vs : List Value} {f : Nat} {W : World} {xs : List α} {x : α}
theorem PshJ.below : ∀ (l : List Value) (V V' : World), PshJ E Te base lo r b t vs f W xs x l V → Below V.heap.size V V' → PshJ E Te base lo r b t vs f W xs x l V'
  | [], _, _, h, hb => Below.trans h (hb.mono (Below.size h))
  | [_], _, _, ⟨h, us, e, h1⟩, hb => ⟨h.trans (hb.mono h.size), us, e, E.weak (Elt.below h1 hb) fun _ hk => ⟨hk.1, Nat.lt_of_lt_of_le hk.2 hb.size⟩⟩
  | [_, _], _, _, ⟨h, ad, c, e, h1, h2, h3⟩, hb => ⟨h.below hb, ad, c, e, h1.below hb, h2.below hb h2.lt, h3⟩
  | _ :: _ :: _ :: _, _, _, ⟨h, ad, c, h1, h2, h3⟩, hb => ⟨h.below hb, ad, c, h1.below hb, h2.below hb h2.lt, h3⟩
theorem PshJ.two : ∀ {l : List Value} {V : World}, PshJ E Te base lo r b t vs f W xs x l V → Twb W V r b
  | [], _, h => Twb.of_below h
  | [_], _, ⟨h, _⟩ => Twb.of_below h
  | [_, _], _, ⟨h, _⟩ => h
  | _ :: _ :: _ :: _, _, ⟨h, _⟩ => h
theorem PshJ.early {V : World} {vl : List Value} (h : PshJ E Te base lo r b t vs f W xs x vl V) (hk : vl.length ≤ 1) : Below W.heap.size W V := by
  match vl, h with
  | [], h => exact h
  | [_], h => exact h.1
  | _ :: _ :: _, _ => simp at hk
def pRow {α : Type} (E : Elt α) (Te : TypeId) (W : World) (r : Option Nat) (b : Nat) (x : α) (hr : ∀ k, r = some k → k < W.heap.size) (hb : b < W.heap.size) : SGn (fun A B => Twb A B r b) :=
  ⟨fun w v => ∃ g, ∃ us : List Value, v = .slice (some ⟨g, 0, none⟩) 1 1 ∧ W.heap.size ≤ g ∧ w.heap[g]? = some (.cells us.toArray Te (0, 0)) ∧ E.R (fun k => W.heap.size ≤ k ∧ k < w.heap.size) w x us,
  fun _ _ _ ⟨g, us, h, h0, hc, hR⟩ hb => ⟨g, us, h, h0, (hb.block g (Array.getElem?_eq_some_iff.1 hc).1).trans hc, E.weak (Elt.below hR hb) fun _ hk => ⟨hk.1, Nat.lt_of_lt_of_le hk.2 hb.size⟩⟩,
  fun _ _ _ ⟨g, us, h, h0, hc, hR⟩ hk => ⟨g, us, h, h0, (hk.block g (Array.getElem?_eq_some_iff.1 hc).1 (fun e => by have := hr g e.symm; omega) (fun e => by omega)).trans hc, E.weak (E.keep hR fun k hh => hk.block k hh.2 (fun e => by have := hr k e.symm; omega) (fun e => by omega)) fun _ hh => ⟨hh.1, Nat.lt_of_lt_of_le hh.2 hk.size⟩⟩⟩
theorem PshJ.app {V V' : World} {v : Value} {v0 : Value} {ad : Option Addr} {c : Nat} (h : PshJ E Te base lo r b t vs f W xs x [v] V) (hB : BoxN W b t vs) (hO : OwnL (Elt.but E b) Te base lo V' (.slice ad (xs ++ [x]).length c) (xs ++ [x])) (hg : V.grownBy V' r) (hbr : r ≠ some b) (ho : Value.ownBlock (.slice ad (xs ++ [x]).length c) = r ∨ Value.ownBlock (.slice ad (xs ++ [x]).length c) = some V.heap.size) :
    PshJ E Te base lo r b t vs f W xs x [v0, .slice ad (xs ++ [x]).length c] V' :=
  ⟨(Twb.of_below h.1).row hg, ad, c, rfl, hO, (hB.below h.1 hB.lt).other hg hbr, by
    rcases ho with e | e
    · rw [e]; exact hbr
    · rw [e]; intro e2; injection e2 with e2; have := hB.lt; have := h.1.size; omega⟩
theorem PshJ.sto {V V' : World} {v s u v0 s0 : Value} {ad : Option Addr} {c : Nat} (h : PshJ E Te base lo r b t vs f W xs x [v, s] V) (hO : OwnL (Elt.but E b) Te base lo V (.slice ad (xs ++ [x]).length c) (xs ++ [x])) (hn : Value.ownBlock (.slice ad (xs ++ [x]).length c) ≠ some b) (hg : V.grownBy V' (some b)) (hB : BoxN V' b t (vs.set f (.slice ad (xs ++ [x]).length c))) :
    PshJ E Te base lo r b t vs f W xs x [v0, s0, u] V' :=
  ⟨h.1.box hg, ad, c, hO.butOther hg hn, hB, hn⟩
end
end Go.Proofs.Ytmcleffpjfeegaa
namespace Go.Proofs.Ytmcleffpjfeegaa
open Go.RowKit Go.Shelf
theorem OwnL.num {Te : TypeId} {base lo lo' : Nat} {w : World} {v : Value} {xs : List Int} (h : OwnL Elt.int Te base lo w v xs) : OwnL Elt.int Te base lo' w v xs := by
  obtain ⟨vs, h1, h2⟩ := h
  have hf : ∀ {S S' : Nat → Prop} {l : List Int} {us : List Value}, Flat Elt.int S w l us → Flat Elt.int S' w l us := by
    intro S S' l
    induction l with
    | nil => intro us h; exact h
    | cons x l ih => rintro us ⟨a, b, e, h3, h4⟩; exact ⟨a, b, e, h3, ih h4⟩
  exact ⟨vs, h1, hf h2⟩
def smD (d : Dl) : Prop := d.writes.length ≤ 1000000 ∧ d.marks.length ≤ 1000000 ∧ ∀ x ∈ d.writes, x.key.length ≤ 1000000 ∧ x.val.length ≤ 1000000
def OwnD (B : Nat) (w : World) (v : Value) (d : Dl) : Prop := ∃ a c a2 c2 M, B ≤ M ∧ M ≤ w.heap.size ∧ v = .agg #[.slice a d.writes.length c, .slice a2 d.marks.length c2] ∧ OwnL Elt.wr 43 M M w (.slice a d.writes.length c) d.writes ∧ OwnL Elt.int 3 B B w (.slice a2 d.marks.length c2) d.marks ∧ ∀ g, Value.ownBlock (.slice a2 d.marks.length c2) = some g → g < M
end Go.Proofs.Ytmcleffpjfeegaa
namespace Go.Proofs.Ytmcleffpjfeegaa
open Go.RowKit Go.Shelf
set_option maxRecDepth 100000 in
set_option maxHeartbeats 4000000 in
theorem dlCopy_any (w : World) {S : Nat → Prop} {v : Value} {d : Dl} (h : RdDl S w v d) (hs : smD d) :
    Calls Try.prog 57 #[v] w fun e w' => ∃ v', e = .returned v' ∧ OwnD w.heap.size w' v' d ∧ Below w.heap.size w w' := by
  replace h : RdDl (· < w.heap.size) w v d := by
    obtain ⟨a, c, a2, c2, e, h1, h2⟩ := h
    exact ⟨a, c, a2, c2, e, h1.fit.weak fun _ hk => hk.2, h2.fit.weak fun _ hk => hk.2⟩
  obtain ⟨a, c, a2, c2, rfl, hw, hm⟩ := h
  obtain ⟨_, hc1, hm1⟩ := hw.len
  obtain ⟨hs1, hs2, hs3⟩ := hs
  obtain ⟨W0, hW, q, bn, bz, hsz⟩ := boxes2 w 56 56 [.slice a d.writes.length c, .slice a2 d.marks.length c2] [.slice none 0 0, .slice none 0 0]
  have eA : ∀ args w, (callFunc 69 args).run Try.prog w = .ok (.enter 69 args) w := enters_of Try.func69 (by kernel_rfl) rfl
  go_enter Try.func57, Try.ntmps57
  go_upto_region 1 with (fail)
  rw [show (w.alloc (.cells #[.slice a d.writes.length c, .slice a2 d.marks.length c2] 56)).alloc (.cells #[.slice none 0 0, .slice none 0 0] 56) = W0 from hW.symm]
  clear hW
  replace hsz := Lib.hid hsz
  go_upto_region 3 with (first
    | (refine wpList_buildZero (E := Elt.int) inP rfl rfl ?_; intro wz hbz hOz; have b1 := (bn.below hbz bn.lt).cell (i := 1) rfl)
    | (refine wpList_append_zeroL (E := Elt.int) inP rfl rfl rfl (hOz.to (Nat.le_refl _) (Nat.zero_le _)) rfl ((hm.below (q.trans (hbz.mono q.size))).fit.weak fun k hk => hk.2) (fun k hk => ⟨Nat.zero_le _, hk⟩) hbz.size ?_ (by omega); intro m1 ml mc w1 hM hbm; obtain rfl := hM.len; clear b1)
    | (refine wpList_boxNew (vs := [.slice none 0 0, .slice none 0 0]) (by kernel_rfl) rfl rfl ?_; intro w2 hb2 hB2)
    | (refine wpList_boxStore (us := [.slice none 0 0, .slice m1 d.marks.length mc]) (by kernel_rfl) rfl rfl rfl rfl rfl rfl hB2 rfl ?_; intro w3 hg3 hB3)
    | fail)
  have hsz1 : w.heap.size + 1 < W0.heap.size := by have := hsz.out; omega
  replace hM := hM.num (lo' := W0.heap.size)
  have hb1 : Below W0.heap.size W0 w1 := hbz.trans (hbm.mono hbz.size)
  have q1 := q.trans (hb1.mono q.size)
  have bn1 := bn.below hb1 bn.lt
  have bz1 := bz.below hb1 bz.lt
  have hn1 := bn1.lt
  have qb3 : Below w1.heap.size w1 w3 := hb2.grown hg3 hb2.size fun k hk => by injection hk with hk; omega
  have hs3x := hB3.lt
  clear hb2 hB2 hg3 hOz hbm hbz bn bz
  go_loopw [4] (fun iv wr => ∃ (n : Nat) (ad : Option Addr) (ko : Nat), iv = .int .i64 n ∧ n ≤ d.writes.length ∧ OwnL Elt.wr 43 (w1.heap.size + 1) (w1.heap.size + 1) wr (.slice ad (d.writes.take n).length ko) (d.writes.take n) ∧ BoxN wr w1.heap.size 56 [.slice ad (d.writes.take n).length ko, .slice m1 d.marks.length mc] ∧ Below w1.heap.size w1 wr)
    (fun i _ => d.writes.length - (intOf i).toNat)
  case atStart => exact ⟨0, none, 0, rfl, Nat.zero_le _, OwnL.nil _ _ _ _ _, hB3, qb3⟩
  case round =>
    clear hB3 qb3
    obtain ⟨n, ad, ko, rfl, hkl, hO, hB, qr⟩ := hrel
    have q := q1.trans (qr.mono q1.size)
    have bnr := bn1.below qr bn1.lt
    have b0 := bnr.cell (i := 0) rfl
    rcases Nat.lt_or_ge n d.writes.length with hlt | hge
    · obtain ⟨b, off, KA, KC, VA, VC, rfl, hbw, c0, c1, c2, c3, hk1, hk2, hw64⟩ := (hw.below q).wr n hlt
      obtain ⟨hx1, hx2⟩ := hs3 _ (List.getElem_mem hlt)
      have hsn := Lib.hid (show d.writes.take (n + 1) = d.writes.take n ++ [d.writes[n]] from List.take_succ_eq_append_getElem hlt)
      obtain ⟨x, ex⟩ : ∃ x, x = d.writes[n] := ⟨_, rfl⟩
      obtain ⟨xs, exs⟩ : ∃ xs, xs = d.writes.take n := ⟨_, rfl⟩
      have hxl : xs.length ≤ 1000000 := by rw [exs, List.length_take]; omega
      rw [← ex] at c0 c1 c2 c3 hk1 hk2 hw64 hx1 hx2 hsn
      rw [← exs] at hO hB hsn
      clear ex exs
      have hx : RdWr (· < w.heap.size) wr (.agg #[.int .i64 x.table, .slice KA x.key.length KC, .bool x.gone, .slice VA x.val.length VC]) x := ⟨KA, KC, VA, VC, rfl, hk1, hk2, hw64⟩
      go_upto_region 5 with (fail)
      go_simp
      have hBlt := hB.lt
      have hrr : ∀ k, Value.ownBlock (.slice ad xs.length ko) = some k → w1.heap.size + 1 ≤ k ∧ k < wr.heap.size := fun k hk => hO.block_lt k hk
      have hrW : ∀ k, Value.ownBlock (.slice ad xs.length ko) = some k → k < wr.heap.size := fun k hk => (hrr k hk).2
      replace hO := hO.but (b := w1.heap.size) (fun k hk _ => by omega)
      have hlo : w1.heap.size + 1 ≤ wr.heap.size := by omega
      have hnr : some w.heap.size ≠ Value.ownBlock (.slice ad xs.length ko) := fun e => by have := hrr _ e.symm; omega
      have hnb : w.heap.size ≠ w1.heap.size := by omega
      have hbr : Value.ownBlock (.slice ad xs.length ko) ≠ some w1.heap.size := fun e => by have := hrr _ e; omega
      have hb1 : w1.heap.size < w1.heap.size + 1 := by omega
      have hbW : b < wr.heap.size := by have := q.size; omega
      clear hk1 hk2
      refine wp_region_lnl (K := fun A B => Twb A B (Value.ownBlock (.slice ad xs.length ko)) (w1.heap.size)) (by kernel_rfl) (by kernel_rfl) [7, 9, 11] (by kernel_rfl) [lEq (.pointer (some ⟨w1.heap.size, 0 + 0, none⟩)), lEq (.slice ad xs.length ko), lEq (.pointer (some ⟨w.heap.size, 0 + 0, none⟩)), lEq (.slice (some ⟨b, off, none⟩) d.writes.length c), lEq (.int .i64 (n : Int)), lEq (.pointer (some ⟨b, off + n * 4, none⟩)), lEq (.agg #[.int .i64 x.table, .slice KA x.key.length KC, .bool x.gone, .slice VA x.val.length VC]), lAny, pRow Elt.wr 43 (wr) (Value.ownBlock (.slice ad xs.length ko)) (w1.heap.size) x hrW hB.lt, lAny, lEq (.pointer (some ⟨w1.heap.size, 0 + 0, none⟩)), lAny] (PshJ Elt.wr 43 ((w1.heap.size + 1)) ((w1.heap.size + 1)) (Value.ownBlock (.slice ad xs.length ko)) (w1.heap.size) 56 [.slice ad xs.length ko, .slice m1 d.marks.length mc] 0 (wr) (xs) x) PshJ.below (show Below (wr).heap.size (wr) (wr) from Below.refl _ _)
        ⟨?o0, ?o1, ?o2, ?o3, ?o4, ?o5, ?o6, ?o7, ?o8, ?o9, ?o10, ?o11, trivial⟩ ?fin
      case o0 =>
        refine LnOp.side rfl (by kernel_rfl) (fun A va w' k hF hT hk hJ hb hu hp hd => ?_)
        have e1 : A.eval (.tmp 3) = .pointer (some ⟨w1.heap.size, 0, none⟩) := hF 3 rfl
        exact wp_fieldN dlS rfl (e1) (by omega) ⟨_, rfl, rfl, Below.refl _ _⟩
      case o1 =>
        refine LnOp.side rfl (by kernel_rfl) (fun A va w' k hF hT hk hJ hb hu hp hd => ?_)
        have e1 : A.eval (.tmp 17) = .pointer (some ⟨w1.heap.size, 0 + 0, none⟩) := (hT 17 0 (by simp) rfl).trans (hd ⟨0, .data⟩ (by simp) rfl rfl)
        have hk1 : k ≤ 1 := hb 1 9 rfl (by kernel_rfl)
        have hJ0 := PshJ.early hJ (by simp only [List.length_map, List.length_take]; omega)
        exact wp_ld_slice (e := 43) rfl e1 (by kernel_rfl) ((hB.below hJ0 hB.lt).cell (i := 0) rfl) ⟨_, rfl, rfl, Below.refl _ _⟩
      case o2 =>
        refine LnOp.side rfl (by kernel_rfl) (fun A va w' k hF hT hk hJ hb hu hp hd => ?_)
        have e1 : A.eval (.tmp 1) = .pointer (some ⟨w.heap.size, 0, none⟩) := hF 1 rfl
        exact wp_fieldN dlS rfl (e1) (by omega) ⟨_, rfl, rfl, Below.refl _ _⟩
      case o3 =>
        refine LnOp.side rfl (by kernel_rfl) (fun A va w' k hF hT hk hJ hb hu hp hd => ?_)
        have e1 : A.eval (.tmp 19) = .pointer (some ⟨w.heap.size, 0 + 0, none⟩) := (hT 19 2 (by simp) rfl).trans (hd ⟨2, .data⟩ (by simp) rfl rfl)
        exact wp_ld_slice (e := 43) rfl (e1) (by kernel_rfl) (((PshJ.two hJ).boxN bnr hnr hnb).cell (i := 0) rfl) ⟨_, rfl, rfl, Below.refl _ _⟩
      case o4 =>
        refine LnOp.side rfl (by kernel_rfl) (fun A va w' k hF hT hk hJ hb hu hp hd => ?_)
        have e1 : A.eval (.tmp 4) = .int .i64 (n : Int) := hF 4 rfl
        exact BigFrame.wp_move _ rfl ⟨_, rfl, e1, Below.refl _ _⟩
      case o5 =>
        refine LnOp.side rfl (by kernel_rfl) (fun A va w' k hF hT hk hJ hb hu hp hd => ?_)
        have e1 : A.eval (.tmp 20) = .slice (some ⟨b, off, none⟩) d.writes.length c := (hT 20 3 (by simp) rfl).trans (hd ⟨3, .data⟩ (by simp) rfl rfl)
        have e2 : A.eval (.tmp 21) = .int .i64 (n : Int) := (hT 21 4 (by simp) rfl).trans (hd ⟨4, .data⟩ (by simp) rfl rfl)
        exact wp_ixN (e := 43) rfl (by kernel_rfl) (by kernel_rfl) (e1) (e2) rfl (by omega) ⟨_, rfl, rfl, Below.refl _ _⟩
      case o6 =>
        refine LnOp.side rfl (by kernel_rfl) (fun A va w' k hF hT hk hJ hb hu hp hd => ?_)
        have e1 : A.eval (.tmp 22) = .pointer (some ⟨b, off + n * 4, none⟩) := (hT 22 5 (by simp) rfl).trans (hd ⟨5, .data⟩ (by simp) rfl rfl)
        obtain rfl : k = 0 := by have := hb 0 7 rfl (by kernel_rfl); omega
        have hJ0 : Below wr.heap.size wr w' := hJ
        exact wp_load4 wrS rfl e1 ((hJ0.cell (p := ⟨b, off + n * 4, none⟩) hbW).trans c0) ((hJ0.cell (p := ⟨b, off + n * 4 + 1, none⟩) hbW).trans c1) ((hJ0.cell (p := ⟨b, off + n * 4 + 2, none⟩) hbW).trans c2) ((hJ0.cell (p := ⟨b, off + n * 4 + 3, none⟩) hbW).trans c3) ⟨_, rfl, rfl, Below.refl _ _⟩
      case o7 =>
        refine LnOp.line 0 rfl rfl (fun A va w' hF hT hJ hu hd => ?_)
        have e1 : A.eval (.tmp 23) = .agg #[.int .i64 x.table, .slice KA x.key.length KC, .bool x.gone, .slice VA x.val.length VC] := (hT 23 6 (by simp) rfl).trans (hd ⟨6, .data⟩ (by simp) rfl rfl)
        have hJ0 : Below (wr).heap.size (wr) w' := hJ
        refine wp_callFn rfl eA (by simp only [List.map_toArray, List.map_cons, List.map_nil, e1]) ((rWrite_any w' (hx.below hJ0) hx1 hx2).mono ?_)
        rintro e w2 ⟨v2, rfl, ⟨ka, kc, va2, vc, rfl, hk2, hv2, ht2⟩, hb2⟩
        have hR : Elt.wr.R (fun k => wr.heap.size ≤ k ∧ k < w2.heap.size) w2 x (wrC x (.slice ka x.key.length kc) (.slice va2 x.val.length vc)) := ⟨_, _, rfl, hk2.weak fun k hk => ⟨Nat.le_trans hJ0.size hk.1, hk.2⟩, hv2.weak fun k hk => ⟨Nat.le_trans hJ0.size hk.1, hk.2⟩, ht2⟩
        exact ⟨_, rfl, _, rfl, ⟨hJ0.trans (hb2.mono hJ0.size), _, rfl, hR⟩, (Twb.refl (r := Value.ownBlock (.slice ad xs.length ko)) (b := w1.heap.size)).below hb2⟩
      case o8 =>
        refine LnOp.side rfl (by kernel_rfl) (fun A va w' k hF hT hk hJ hb hu hp hd => ?_)
        have x1 : A.eval (.tmp 24) = va 7 := hT 24 7 (by simp) rfl
        obtain rfl : k = 1 := by
          have h1 := hp ⟨7, .data⟩ (by simp) rfl 0 rfl
          have h2 := hb 1 9 rfl (by kernel_rfl)
          omega
        obtain ⟨hJ0, us, eus, hR⟩ := hJ
        have hb1 : Below w'.heap.size w' (w'.alloc (.cells us.toArray 43)) := (Below.refl _ _).alloc (Nat.le_refl _) _
        exact wp_buildOne wrP rfl x1 eus (Elt.len _ hR) (by decide) (by decide) ⟨_, rfl, ⟨_, us, rfl, hJ0.size, by simp only [World.alloc, Array.getElem?_push_size], Elt.weak _ (Elt.below hR hb1) fun k hk => ⟨hk.1, Nat.lt_of_lt_of_le hk.2 hb1.size⟩⟩, hb1⟩
      case o9 =>
        refine LnOp.line 1 rfl rfl (fun A va w' hF hT hJ hu hd => ?_)
        have e1 : A.eval (.tmp 18) = .slice ad xs.length ko := (hT 18 1 (by simp) rfl).trans (hd ⟨1, .data⟩ (by simp) rfl rfl)
        have x2 : A.eval (.tmp 25) = va 8 := hT 25 8 (by simp) rfl
        have y2 := hd ⟨8, .data⟩ (by simp) rfl rfl
        have hJ' := hJ
        obtain ⟨hJ0, _⟩ := hJ
        obtain ⟨g, us, eg, hg0, hgc, hgR⟩ : ∃ g, ∃ us : List Value, va 8 = .slice (some ⟨g, 0, none⟩) 1 1 ∧ (wr).heap.size ≤ g ∧ w'.heap[g]? = some (.cells us.toArray 43 (0, 0)) ∧ Elt.R Elt.wr (fun k => (wr).heap.size ≤ k ∧ k < w'.heap.size) w' x us := y2
        refine wp_appendL (E := Elt.but Elt.wr (w1.heap.size)) (ys := [x]) wrP rfl e1 (hO.below hJ0) (x2.trans eg) (fun j u hj => by rw [Addr.add_lit, World.cell?, hgc]; simpa using hj) (Flat.single (Elt.weak Elt.wr hgR fun k hk => ⟨hk, fun e => by have := hk.1; have := hB.lt; omega⟩)) (fun k hk => ⟨Nat.le_trans hlo hk.1, hk.2, fun e => by have := hrW k e.symm; omega⟩) (Nat.le_trans hlo hJ0.size) (fun ad7 k7 cap7 w2 h2 hg h3 => ?_) (by simp; omega)
        obtain rfl : k7 = (xs ++ [x]).length := h2.len
        exact ⟨_, rfl, PshJ.app hJ' hB h2 hg hbr h3, (Twb.refl (b := w1.heap.size)).row hg⟩
      case o10 =>
        refine LnOp.side rfl (by kernel_rfl) (fun A va w' k hF hT hk hJ hb hu hp hd => ?_)
        have e1 : A.eval (.tmp 3) = .pointer (some ⟨w1.heap.size, 0, none⟩) := hF 3 rfl
        exact wp_fieldN dlS rfl (e1) (by omega) ⟨_, rfl, rfl, Below.refl _ _⟩
      case o11 =>
        refine LnOp.line 2 rfl rfl (fun A va w' hF hT hJ hu hd => ?_)
        have e1 : A.eval (.tmp 27) = .pointer (some ⟨w1.heap.size, 0 + 0, none⟩) := (hT 27 10 (by simp) rfl).trans (hd ⟨10, .data⟩ (by simp) rfl rfl)
        have x2 : A.eval (.tmp 26) = va 9 := hT 26 9 (by simp) rfl
        have hJ' := hJ
        obtain ⟨hJ0, ad7, c7, es, hOs, hBs, hn7⟩ := hJ
        refine wp_boxSet (j := 0) rfl (by kernel_rfl) e1 (x2.trans es) rfl rfl hBs (by simp) (fun w2 hg hB2 => ?_)
        exact ⟨_, rfl, PshJ.sto hJ' hOs hn7 hg hB2, (Twb.refl (r := Value.ownBlock (.slice ad xs.length ko))).box hg⟩
      case fin =>
        intro vs1 W9 hJ hG
        obtain ⟨htw, ad9, c9, hO9, hB9, hn9⟩ := hJ
        have g0 : vs1 0 = .pointer (some ⟨w1.heap.size, 0 + 0, none⟩) := hG 0 (by decide) rfl
        have g1 : vs1 1 = .slice ad xs.length ko := hG 1 (by decide) rfl
        have g2 : vs1 2 = .pointer (some ⟨w.heap.size, 0 + 0, none⟩) := hG 2 (by decide) rfl
        have g3 : vs1 3 = .slice (some ⟨b, off, none⟩) d.writes.length c := hG 3 (by decide) rfl
        have g4 : vs1 4 = .int .i64 (n : Int) := hG 4 (by decide) rfl
        have g5 : vs1 5 = .pointer (some ⟨b, off + n * 4, none⟩) := hG 5 (by decide) rfl
        have g6 : vs1 6 = .agg #[.int .i64 x.table, .slice KA x.key.length KC, .bool x.gone, .slice VA x.val.length VC] := hG 6 (by decide) rfl
        have g10 : vs1 10 = .pointer (some ⟨w1.heap.size, 0 + 0, none⟩) := hG 10 (by decide) rfl
        clear hG
        simp only [putAll, g0, g1, g2, g3, g4, g5, g6, g10]
        clear g0 g1 g2 g3 g4 g5 g6 g10
        go_simp
        have q9 := htw.belowB (w0 := w1) qr (fun k hk => by have := hrr k hk; omega) (Nat.le_refl _)
        replace hO9 := hO9.unbut
        rw [← hsn.out] at hO9 hB9
        clear hB bnr b0 hO hx hsn htw hn9 c0 c1 c2 c3
        go_wp2_with fail
        go_roundw
        case rel => exact ⟨n + 1, ad9, c9, by go_num, by omega, hO9, hB9, q9⟩
        case measure => simp [intOf]; omega
    · obtain rfl : n = d.writes.length := by omega
      rw [List.take_length] at hO hB
      have b1 := hB.cell (i := 1) rfl
      have b2 := hB.cell (i := 0) rfl
      have bz2 := bz1.below qr bz1.lt
      have hM2 := hM.below qr
      go_wp2_with (first | (refine wpList_boxStore (us := [.slice ad d.writes.length ko, .slice m1 d.marks.length mc]) (by kernel_rfl) rfl rfl rfl rfl rfl rfl bz2 rfl ?_; intro wd hgd hBd) | fail)
      have d0 := hBd.cell (i := 0) rfl
      have d1 := hBd.cell (i := 1) rfl
      obtain ⟨fs, hu, _⟩ := dlS.hu
      refine bodyPost_ret (v := .agg #[.slice ad d.writes.length ko, .slice m1 d.marks.length mc]) (by simp [results, Try.results57, go_sem, loadVar, isAgg, run_underlying hu, run_sizeOf' dlS.hs, loadCellsFrom, Addr.add, d0, d1]) rfl ?_
      have hz1 := hb1.size
      have hzd := hgd.size
      have hB2 := hB.lt
      exact ⟨_, rfl, ⟨ad, ko, m1, mc, w1.heap.size + 1, by omega, by omega, rfl, hO.other hgd (by omega) (by omega), (hM2.other hgd (by omega) (by omega)).to (by omega) (by omega), fun g hg => by have := (hM.block_lt g hg).2; omega⟩, q.grown hgd q.size fun k e => by injection e with e; omega⟩
end Go.Proofs.Ytmcleffpjfeegaa
namespace Go.Proofs.Ytmcleffpjfeegaa
open Go.RowKit Go.Shelf
theorem BxeL.bl {R : (Nat → Prop) → World → Value → Prop} {Te : TypeId} {Z : List Value} {mk : Value → List Value} {W w : World} : ∀ {l : List (Option Value)}, BxeL R Te Z mk W l w → Below W.heap.size W w
  | [_, _, _, _], h => BxE.bl h
def mk13 (x : Ps) (c : Value) : List Value := [.int .i64 x.snap, .int .i64 x.stamp, .bool x.held, c, .slice none 0 0, .bool x.out]
def R13 (x : Ps) (S : Nat → Prop) (w : World) (v : Value) : Prop := ∃ a c, v = .slice a x.reads.length c ∧ RdL Elt.sp S w (.slice a x.reads.length c) x.reads
theorem rdq13 {x : Ps} : RdQ (R13 x) := ⟨fun ⟨a, c, e, h⟩ hk => ⟨a, c, e, h.keep hk⟩, fun ⟨a, c, e, h⟩ hk => ⟨a, c, e, h.weak hk⟩⟩
theorem run_build13 (w : World) (s t : Int) (h o : Bool) (a : Option Addr) (n c : Nat) : (Instr.build 49 #[(0, .int .i64 s), (1, .int .i64 t), (2, .bool h), (3, .slice a n c), (5, .bool o)]).run Try.prog w = .ok (.agg #[.int .i64 s, .int .i64 t, .bool h, .slice a n c, .slice none 0 0, .bool o]) w := by kernel_rfl
theorem run_fieldDl (w : World) (a b : Option Addr) (n c m d : Nat) : (Instr.field 56 (.agg #[.slice a n c, .slice b m d]) 0).run Try.prog w = .ok (.slice a n c) w := by kernel_rfl
attribute [local go_sem] run_fieldDl
set_option maxRecDepth 100000 in
set_option maxHeartbeats 8000000 in
theorem rCopyP_any (w : World) {S : Nat → Prop} {v : Value} {x : Ps} (hx : RdPs S w v x) (hsm : smP x) :
    Calls Try.prog 29 #[v] w (P1End w x) := by
  obtain ⟨a1, a2, a3, a4, rfl, hxr, hxw, h64⟩ := hx
  obtain ⟨W, hW, q, Bx, Bz, hsz⟩ := spBoxes2 w 49 49 [.int .i64 x.snap, .int .i64 x.stamp, .bool x.held, .slice a1 x.reads.length a2, .slice a3 x.writes.length a4, .bool x.out] [.int .i64 0, .int .i64 0, .bool false, .slice none 0 0, .slice none 0 0, .bool false]
  have eC : ∀ args w, (callFunc 48 args).run Try.prog w = .ok (.enter 48 args) w := enters_of Try.func48 (by kernel_rfl) rfl
  replace hxr := hxr.below q
  replace hxw := hxw.below q
  go_enter Try.func29, Try.ntmps29
  go_upto_region 1 with (fail)
  rw [show (w.alloc (.cells #[.int .i64 x.snap, .int .i64 x.stamp, .bool x.held, .slice a1 x.reads.length a2, .slice a3 x.writes.length a4, .bool x.out] 49)).alloc (.cells #[.int .i64 0, .int .i64 0, .bool false, .slice none 0 0, .slice none 0 0, .bool false] 49) = W from hW.symm]
  clear hW
  refine wp_region_setl (K := fun _ _ => True) (by kernel_rfl) (by kernel_rfl) [8, 11, 12, 13] (by kernel_rfl) [lEq (.pointer (some ⟨w.heap.size, 0 + 0, none⟩)), lEq (.int .i64 x.snap), lEq (.pointer (some ⟨w.heap.size, 0 + 1, none⟩)), lEq (.int .i64 x.stamp), lEq (.pointer (some ⟨w.heap.size, 0 + 2, none⟩)), lEq (.bool x.held), lEq (.pointer (some ⟨w.heap.size, 0 + 3, none⟩)), lEq (.slice a1 x.reads.length a2), lAny, lEq (.pointer (some ⟨w.heap.size, 0 + 5, none⟩)), lEq (.bool x.out), lAny, lAny, lAny]
    (BxeL (R13 x) 49 [.int .i64 0, .int .i64 0, .bool false, .slice none 0 0, .slice none 0 0, .bool false] (mk13 x) W) (BxeL.more rdq13) BxE.start
    ⟨?o0, ?o1, ?o2, ?o3, ?o4, ?o5, ?o6, ?o7, ?o8, ?o9, ?o10, ?o11, ?o12, ?o13, trivial⟩ ?fin
  case o0 =>
    refine StOp.free rfl (by kernel_rfl) (fun A va D w' hF hT hN hE hd hu hg => ?_)
    have e1 : A.eval (.tmp 1) = .pointer (some ⟨w.heap.size, 0, none⟩) := hF 1 rfl
    exact wp_fieldN psS rfl (e1) (by omega) ⟨_, rfl, rfl, Below.refl _ _⟩
  case o1 =>
    refine StOp.free rfl (by kernel_rfl) (fun A va D w' hF hT hN hE hd hu hg => ?_)
    have e1 : A.eval (.tmp 4) = .pointer (some ⟨w.heap.size, 0 + 0, none⟩) := (hT 4 0 (by simp) rfl).trans (hg ⟨0, .data⟩ (by simp) rfl rfl)
    exact wp_ld_int (k := .i64) rfl (e1) (by kernel_rfl) (((BxeL.bl hE).cell (p := ⟨_, _, none⟩) Bx.lt).trans (Bx.cell (i := 0) rfl)) ⟨_, rfl, rfl, Below.refl _ _⟩
  case o2 =>
    refine StOp.free rfl (by kernel_rfl) (fun A va D w' hF hT hN hE hd hu hg => ?_)
    have e1 : A.eval (.tmp 1) = .pointer (some ⟨w.heap.size, 0, none⟩) := hF 1 rfl
    exact wp_fieldN psS rfl (e1) (by omega) ⟨_, rfl, rfl, Below.refl _ _⟩
  case o3 =>
    refine StOp.free rfl (by kernel_rfl) (fun A va D w' hF hT hN hE hd hu hg => ?_)
    have e1 : A.eval (.tmp 6) = .pointer (some ⟨w.heap.size, 0 + 1, none⟩) := (hT 6 2 (by simp) rfl).trans (hg ⟨2, .data⟩ (by simp) rfl rfl)
    exact wp_ld_int (k := .i64) rfl (e1) (by kernel_rfl) (((BxeL.bl hE).cell (p := ⟨_, _, none⟩) Bx.lt).trans (Bx.cell (i := 1) rfl)) ⟨_, rfl, rfl, Below.refl _ _⟩
  case o4 =>
    refine StOp.free rfl (by kernel_rfl) (fun A va D w' hF hT hN hE hd hu hg => ?_)
    have e1 : A.eval (.tmp 1) = .pointer (some ⟨w.heap.size, 0, none⟩) := hF 1 rfl
    exact wp_fieldN psS rfl (e1) (by omega) ⟨_, rfl, rfl, Below.refl _ _⟩
  case o5 =>
    refine StOp.free rfl (by kernel_rfl) (fun A va D w' hF hT hN hE hd hu hg => ?_)
    have e1 : A.eval (.tmp 8) = .pointer (some ⟨w.heap.size, 0 + 2, none⟩) := (hT 8 4 (by simp) rfl).trans (hg ⟨4, .data⟩ (by simp) rfl rfl)
    exact wp_ld_bool  rfl (e1) (by kernel_rfl) (((BxeL.bl hE).cell (p := ⟨_, _, none⟩) Bx.lt).trans (Bx.cell (i := 2) rfl)) ⟨_, rfl, rfl, Below.refl _ _⟩
  case o6 =>
    refine StOp.free rfl (by kernel_rfl) (fun A va D w' hF hT hN hE hd hu hg => ?_)
    have e1 : A.eval (.tmp 1) = .pointer (some ⟨w.heap.size, 0, none⟩) := hF 1 rfl
    exact wp_fieldN psS rfl (e1) (by omega) ⟨_, rfl, rfl, Below.refl _ _⟩
  case o7 =>
    refine StOp.free rfl (by kernel_rfl) (fun A va D w' hF hT hN hE hd hu hg => ?_)
    have e1 : A.eval (.tmp 10) = .pointer (some ⟨w.heap.size, 0 + 3, none⟩) := (hT 10 6 (by simp) rfl).trans (hg ⟨6, .data⟩ (by simp) rfl rfl)
    exact wp_ld_slice (e := 25) rfl (e1) (by kernel_rfl) (((BxeL.bl hE).cell (p := ⟨_, _, none⟩) Bx.lt).trans (Bx.cell (i := 3) rfl)) ⟨_, rfl, rfl, Below.refl _ _⟩
  case o8 =>
    refine StOp.set rfl (by kernel_rfl) (fun A va D w' hF hT hN hE hd hu hg => ?_)
    have e1 : A.eval (.tmp 11) = .slice a1 x.reads.length a2 := (hT 11 7 (by simp) rfl).trans (hg ⟨7, .data⟩ (by simp) rfl rfl)
    have hE2 := hE
    simp only [told, List.map_cons, List.map_nil, hN, Bool.false_eq_true, if_false] at hE2
    refine wp_callFn rfl eC (args := #[.slice a1 x.reads.length a2]) (by simp only [List.map_toArray, List.map_cons, List.map_nil, e1]) ((rCopy_any w' (hxr.below hE2.bl) hsm.1).mono ?_)
    rintro e w2 ⟨a5, c5, rfl, hO, hb2⟩
    have h5 := BxE.call rdq13 hE2 hb2 (u := .slice a5 x.reads.length c5) ⟨a5, c5, rfl, hO.rdS fun k hk hl => ⟨by omega, hl⟩⟩
    exact ⟨_, rfl, _, rfl, by simpa [BxeL, told, don, upd] using h5, trivial⟩
  case o9 =>
    refine StOp.free rfl (by kernel_rfl) (fun A va D w' hF hT hN hE hd hu hg => ?_)
    have e1 : A.eval (.tmp 1) = .pointer (some ⟨w.heap.size, 0, none⟩) := hF 1 rfl
    exact wp_fieldN psS rfl (e1) (by omega) ⟨_, rfl, rfl, Below.refl _ _⟩
  case o10 =>
    refine StOp.free rfl (by kernel_rfl) (fun A va D w' hF hT hN hE hd hu hg => ?_)
    have e1 : A.eval (.tmp 13) = .pointer (some ⟨w.heap.size, 0 + 5, none⟩) := (hT 13 9 (by simp) rfl).trans (hg ⟨9, .data⟩ (by simp) rfl rfl)
    exact wp_ld_bool  rfl (e1) (by kernel_rfl) (((BxeL.bl hE).cell (p := ⟨_, _, none⟩) Bx.lt).trans (Bx.cell (i := 5) rfl)) ⟨_, rfl, rfl, Below.refl _ _⟩
  case o11 =>
    refine StOp.set rfl (by kernel_rfl) (fun A va D w' hF hT hN hE hd hu hg => ?_)
    have e1 : A.eval (.tmp 5) = .int .i64 x.snap := (hT 5 1 (by simp) rfl).trans (hg ⟨1, .data⟩ (by simp) rfl rfl)
    have e2 : A.eval (.tmp 7) = .int .i64 x.stamp := (hT 7 3 (by simp) rfl).trans (hg ⟨3, .data⟩ (by simp) rfl rfl)
    have e3 : A.eval (.tmp 9) = .bool x.held := (hT 9 5 (by simp) rfl).trans (hg ⟨5, .data⟩ (by simp) rfl rfl)
    have x4 : A.eval (.tmp 12) = va 8 := hT 12 8 (by simp) rfl
    have e5 : A.eval (.tmp 14) = .bool x.out := (hT 14 10 (by simp) rfl).trans (hg ⟨10, .data⟩ (by simp) rfl rfl)
    have hE2 := hE
    have d8 : D 8 = true := hd ⟨8, .data⟩ (by simp) rfl
    simp only [told, List.map_cons, List.map_nil, hN, d8, Bool.false_eq_true, if_false, if_true] at hE2
    obtain ⟨a5, c5, ec, _⟩ := hE2.cl _ rfl
    rw [ec] at hE2
    have h5 := BxE.build hE2
    refine wp_run' (v := .agg #[.int .i64 x.snap, .int .i64 x.stamp, .bool x.held, .slice a5 x.reads.length c5, .slice none 0 0, .bool x.out]) (w := w') (by simp only [execOp, List.map_toArray, List.map_cons, List.map_nil, e1, e2, e3, x4.trans ec, e5]; rw [Sem.run_bind, run_build13]; rfl) ?_
    exact ⟨_, rfl, by simpa [BxeL, told, don, upd, d8, ec, mk13] using h5, trivial⟩
  case o12 =>
    refine StOp.set rfl (by kernel_rfl) (fun A va D w' hF hT hN hE hd hu hg => ?_)
    have hE2 := hE
    simp only [told, List.map_cons, List.map_nil, hN, Bool.false_eq_true, if_false] at hE2
    refine wp_boxNew (vs := [.int .i64 0, .int .i64 0, .bool false, .slice none 0 0, .slice none 0 0, .bool false]) (by kernel_rfl) rfl (fun w2 hb2 hz => ⟨_, rfl, ?_, trivial⟩)
    have h5 := BxE.alloc rdq13 hE2 hb2 hz.lt hz
    simpa [BxeL, told, don, upd] using h5
  case o13 =>
    refine StOp.set rfl (by kernel_rfl) (fun A va D w' hF hT hN hE hd hu hg => ?_)
    have x1 : A.eval (.tmp 3) = va 12 := hT 3 12 (by simp) rfl
    have x2 : A.eval (.tmp 15) = va 11 := hT 15 11 (by simp) rfl
    have hE2 := hE
    have d11 : D 11 = true := hd ⟨11, .data⟩ (by simp) rfl
    have d12 : D 12 = true := hd ⟨12, .data⟩ (by simp) rfl
    simp only [told, List.map_cons, List.map_nil, hN, d11, d12, Bool.false_eq_true, if_false, if_true] at hE2
    obtain ⟨c, ec, eu⟩ := BxE.built hE2
    rw [ec] at hE2
    obtain ⟨b9, eb, hz⟩ := BxE.box hE2
    obtain ⟨a5, c5, ec5, _⟩ := hE2.cl _ rfl
    subst ec5
    refine wp_boxStore (vs := [.int .i64 0, .int .i64 0, .bool false, .slice none 0 0, .slice none 0 0, .bool false]) (us := mk13 x (.slice a5 x.reads.length c5)) (by kernel_rfl) rfl (x1.trans eb) (x2.trans eu) rfl hz rfl (fun w2 hg2 ht2 => ⟨_, rfl, ?_, trivial⟩)
    rw [eb] at hE2
    have h5 := BxE.sto (s := undef) rdq13 hE2 hg2 ht2
    simpa [BxeL, told, don, upd, d11, d12, ec, eb] using h5
  case fin =>
    intro vs1 W1 hE hG
    obtain ⟨eb, b, ea, hbl, hB, ⟨a5, c5, e5, hr5⟩, hb1⟩ := BxE.done rdq13 hE
    have g0 := hG 0 (by decide) rfl
    simp only [putAll, ea, eb, e5]
    rw [e5] at hB
    clear hE hG ea eb e5 g0
    go_simp
    have hBx := Bx.below hb1 Bx.lt
    have c4 := hBx.cell (i := 4) rfl
    have hcl := dlCopy_any W1 (d := ⟨x.writes, []⟩) (S := S) ⟨a3, a4, none, 0, rfl, hxw.below hb1, RdL.nil _ _ _⟩ ⟨hsm.2.1, Nat.zero_le _, hsm.2.2⟩
    go_wp2_with fail
    refine hcl.mono ?_
    rintro e W2 ⟨v, rfl, hO, hb2⟩
    clear hcl c4
    obtain ⟨a6, c6, a7, c7, M, _, _, rfl, hW6, _, _⟩ := id hO
    have hs1 := hb1.size
    have hB2 := hB.below hb2 hB.lt
    have Bz2 := (Bz.below hb1 Bz.lt).below hb2 (by have := Bz.lt; omega)
    have hr6 : RdL Elt.wr (fun k => W1.heap.size ≤ k ∧ k < W2.heap.size) W2 (.slice a6 x.writes.length c6) x.writes := hW6.rdS fun k hk hl => ⟨by omega, hl⟩
    have hr2 : RdL Elt.sp (fun k => (W.heap.size ≤ k ∧ k < W1.heap.size) ∧ k ≠ b) W2 (.slice a5 x.reads.length c5) x.reads := hr5.keep fun k hk => hb2.block k hk.1.2
    have hn2 : x.writes.length ≤ 1000000 := hsm.2.1
    clear hO hW6 hB hBx hxr hxw
    have hZ : mk13 x (.slice a5 x.reads.length c5) = [.int .i64 x.snap, .int .i64 x.stamp, .bool x.held, .slice a5 x.reads.length c5, .slice none 0 0, .bool x.out] := rfl
    rw [hZ] at hB2
    clear hZ
    go_wp2_with (first
      | (refine wpList_boxSet (j := 4) (u := .slice a6 x.writes.length c6) rfl rfl rfl (by kernel_rfl) rfl rfl rfl rfl hB2 (by simp) ?_; intro W3 hg3 hB3; have b3 := (Bz2.other hg3 (by intro e; injection e with e; omega)); replace hB3 : BoxN W3 b 49 [.int .i64 x.snap, .int .i64 x.stamp, .bool x.held, .slice a5 x.reads.length c5, .slice a6 x.writes.length c6, .bool x.out] := hB3; have d0 := hB3.cell (i := 0) rfl; have d1 := hB3.cell (i := 1) rfl; have d2 := hB3.cell (i := 2) rfl; have d3 := hB3.cell (i := 3) rfl; have d4 := hB3.cell (i := 4) rfl; have d5 := hB3.cell (i := 5) rfl)
      | (refine wpList_boxStore (us := [.int .i64 x.snap, .int .i64 x.stamp, .bool x.held, .slice a5 x.reads.length c5, .slice a6 x.writes.length c6, .bool x.out]) (by kernel_rfl) rfl rfl rfl rfl rfl rfl b3 rfl ?_; intro W4 hg4 hB4; clear d0 d1 d2 d3 d4 d5)
      | fail)
    have d0 := hB4.cell (i := 0) rfl
    have d1 := hB4.cell (i := 1) rfl
    have d2 := hB4.cell (i := 2) rfl
    have d3 := hB4.cell (i := 3) rfl
    have d4 := hB4.cell (i := 4) rfl
    have d5 := hB4.cell (i := 5) rfl
    obtain ⟨fs, hu, _⟩ := psS.hu
    refine bodyPost_ret (v := .agg #[.int .i64 x.snap, .int .i64 x.stamp, .bool x.held, .slice a5 x.reads.length c5, .slice a6 x.writes.length c6, .bool x.out]) (by simp [results, Try.results29, go_sem, loadVar, isAgg, run_underlying hu, run_sizeOf' psS.hs, loadCellsFrom, Addr.add, d0, d1, d2, d3, d4, d5]) rfl ?_
    have hs2 := hb2.size
    have hs3 := hg3.size
    have hs4 := hg4.size
    have hk3 : ∀ k, k < W2.heap.size → k ≠ b → k ≠ w.heap.size + 1 → W4.heap[k]? = W2.heap[k]? := fun k h1 h2 h3 => (hg4.block k (by omega) fun e => by injection e with e; omega).trans (hg3.block k h1 fun e => by injection e with e; omega)
    have q2 := (q.trans (hb1.mono q.size)).trans (hb2.mono (by have := q.size; omega))
    have q4 : Below w.heap.size w W4 := (q2.grown hg3 (by omega) fun k e => by injection e with e; omega).grown hg4 (by omega) fun k e => by injection e with e; omega
    exact ⟨_, rfl, ⟨a5, c5, a6, c6, rfl, (hr2.keep fun k hk => hk3 k (by omega) hk.2 (by omega)).weak fun k hk => by omega, (hr6.keep fun k hk => hk3 k hk.2 (by omega) (by omega)).weak fun k hk => by omega, h64⟩, q4⟩
end Go.Proofs.Ytmcleffpjfeegaa
namespace Go.Proofs.Ytmcleffpjfeegaa
open Go.RowKit Go.Shelf
theorem metP_snoc {lv : List Lv} {p : Ps} {k : Nat} (h : k < lv.length) : metP (lv.take (k + 1)) p = (metP (lv.take k) p || decide (lv[k].snap < p.stamp)) := by
  unfold metP
  rw [List.take_succ_eq_append_getElem h, List.any_append]
  simp
set_option maxRecDepth 100000 in
set_option maxHeartbeats 8000000 in
theorem rKeepP_any (w : World) {S S2 : Nat → Prop} {a a2 : Option Addr} {n cx n2 cy : Nat} {l : List Ps} {lv : List Lv} (hl : RdL Elt.ps S w (.slice a n cx) l) (hm : RdL Elt.lv S2 w (.slice a2 n2 cy) lv) (hsm : smPs l) :
    Calls Try.prog 15 #[.slice a n cx, .slice a2 n2 cy] w (PsEnd w (keepP l lv)) := by
  obtain ⟨rfl, hnc, hcm⟩ := hl.len
  have hlm : l.length ≤ 9223372036854775807 := by unfold maxLen at hcm; omega
  obtain ⟨rfl, hnc2, hcm2⟩ := hm.len
  have hmm : lv.length ≤ 9223372036854775807 := by unfold maxLen at hcm2; omega
  have q := Below.refl w.heap.size w
  have hl1 := hsm.1
  replace hsm := Lib.hid hsm.2
  clear hnc hnc2 hcm hcm2
  go_enter Try.func15, Try.ntmps15
  go_upto_region 3 with (fail)
  go_loopw [5, 6] (fun ov iv wr => ∃ (i : Nat) (ad : Option Addr) (ko : Nat), iv = .int .i64 i ∧ i ≤ l.length ∧ ov = .slice ad (keepP (l.take i) lv).length ko ∧ OwnL Elt.ps 49 w.heap.size w.heap.size wr (.slice ad (keepP (l.take i) lv).length ko) (keepP (l.take i) lv) ∧ Below w.heap.size w wr) (fun _ i _ => l.length - (intOf i).toNat)
  case atStart => exact ⟨0, none, 0, rfl, Nat.zero_le _, rfl, OwnL.nil _ _ _ _ _, q⟩
  case round =>
    clear q
    obtain ⟨i, ad, ko, rfl, hil, rfl, hO, q⟩ := hrel
    rcases Nat.lt_or_ge i l.length with hlt | hge
    · have di : decide ((i : Int) < (l.length : Int)) = true := decide_eq_true (by omega)
      have hsn := Lib.hid (keepP_snoc (lv := lv) hlt)
      have hp := Lib.hid (hsm.out _ (List.getElem_mem hlt))
      obtain ⟨xs, exs⟩ : ∃ xs, xs = keepP (l.take i) lv := ⟨_, rfl⟩
      have hxl : xs.length ≤ 1000000 := by rw [exs]; refine Nat.le_trans (keepP_len _ _) ?_; rw [List.length_take]; omega
      rw [← exs] at hO hsn
      rw [← exs]
      clear exs
      go_upto_region 7 with (fail)
      go_loopw [7, 8] (fun mv kv wr => ∃ (k : Nat), kv = .int .i64 k ∧ k ≤ lv.length ∧ mv = .bool (metP (lv.take k) l[i]) ∧ OwnL Elt.ps 49 w.heap.size w.heap.size wr (.slice ad xs.length ko) xs ∧ Below w.heap.size w wr) (fun _ k _ => lv.length - (intOf k).toNat)
      case atStart => exact ⟨0, rfl, Nat.zero_le _, rfl, hO, q⟩
      case round =>
        clear q hO
        obtain ⟨k, rfl, hkm, rfl, hO, q⟩ := hrel
        rcases Nat.lt_or_ge k lv.length with hlt2 | hge
        · have dk : decide ((k : Int) < (lv.length : Int)) = true := decide_eq_true (by omega)
          have hms := Lib.hid (metP_snoc (p := l[i]) hlt2)
          obtain ⟨g1, o1, A1, A2, A3, A4, rfl, _, ⟨c0, c1, c2, c3, c4, c5⟩, _, _, _⟩ := (hl.below q).ps i hlt
          obtain ⟨g2, o2, B1, B2, rfl, _, d0, _, _, _⟩ := (hm.below q).lv k hlt2
          clear c0 c2 c3 c4 c5
          obtain ⟨bm, ebm⟩ : ∃ bm, bm = metP (lv.take k) l[i] := ⟨_, rfl⟩
          rw [← ebm] at hms
          rw [← ebm]
          clear ebm
          go_upto_region 9 with (fail)
          cases bm with
          | true =>
            go_quiet (fail)
            go_wp2_with fail
            go_roundw
            case rel => exact ⟨k + 1, by go_num, by omega, by rw [hms.out]; rfl, hO.below (Below.drewN (Below.refl _ _) _), Below.drewN q _⟩
            case measure => simp [intOf]; omega
          | false =>
            go_quiet (fail)
            go_wp2_with fail
            go_roundw
            case rel => exact ⟨k + 1, by go_num, by omega, by rw [hms.out, Bool.false_or], hO.below (Below.drewN (Below.refl _ _) _), Below.drewN q _⟩
            case measure => simp [intOf]; omega
        · obtain rfl : k = lv.length := by omega
          have dk : decide ((lv.length : Int) < (lv.length : Int)) = false := decide_eq_false (by omega)
          rw [List.take_length]
          obtain ⟨bm, ebm⟩ : ∃ bm, bm = metP lv l[i] := ⟨_, rfl⟩
          rw [← ebm] at hsn
          rw [← ebm]
          clear ebm
          cases bm with
          | false =>
            have hs2 := Lib.hid (show keepP (l.take (i + 1)) lv = xs by rw [hsn.out]; simp)
            clear hsn
            go_wp2_with fail
            go_roundw
            case rel => exact ⟨i + 1, ad, ko, by go_num, by omega, by rw [hs2.out], by rw [hs2.out]; exact hO, q⟩
            case measure => simp [intOf]; omega
          | true =>
            have hs2 := Lib.hid (show keepP (l.take (i + 1)) lv = xs ++ [l[i]] by rw [hsn.out]; simp)
            clear hsn
            obtain ⟨g1, o1, A1, A2, A3, A4, rfl, _, ⟨c0, c1, c2, c3, c4, c5⟩, hk1, hk2, hw64⟩ := (hl.below q).ps i hlt
            obtain ⟨x, ex⟩ : ∃ x, x = l[i] := ⟨_, rfl⟩
            rw [← ex] at hs2 hp c0 c1 c2 c3 c4 c5 hk1 hk2 hw64
            clear ex
            have hx : RdPs S wr (.agg #[.int .i64 x.snap, .int .i64 x.stamp, .bool x.held, .slice A1 x.reads.length A2, .slice A3 x.writes.length A4, .bool x.out]) x := ⟨_, _, _, _, rfl, hk1, hk2, hw64⟩
            clear hk1 hk2 hw64
            go_wp2_with fail
            refine (rCopyP_any wr hx hp.out).mono ?_
            rintro e w1 ⟨v, rfl, hv, hb⟩
            clear c0 c1 c2 c3 c4 c5 hx
            obtain ⟨us, rfl, hR, hus⟩ := hv.R
            have hown : ∀ k, Value.ownBlock (.slice ad xs.length ko) = some k → w.heap.size ≤ k ∧ k < wr.heap.size := fun k hk => hO.block_lt k hk
            replace hO := hO.below hb
            have q1 := q.trans (hb.mono q.size)
            have hs0 := hb.size
            have hqs := q.size
            go_wp2_with (first
              | (refine wpList_buildOne psP rfl rfl rfl rfl hus (by decide) (by decide) ?_; intro w2 hb2 hrow)
              | (refine wpList_apvRow (E := Elt.ps) (n := xs.length + 1) (S := fun k => wr.heap.size ≤ k ∧ k < w2.heap.size) psP rfl rfl rfl rfl (hO.below hb2) hrow (Elt.weak Elt.ps (Elt.below hR hb2) fun k hk => ⟨hk.1, Nat.lt_of_lt_of_le hk.2 hb2.size⟩) (fun k hk => ⟨by omega, hk.2, fun e => by have := hown k e.symm; omega⟩) (by have := hb2.size; omega) (by omega) rfl ?_; intro ad9 c9 w3 hO9 hg9 ho9)
              | fail)
            have q2 := q1.trans (hb2.mono q1.size)
            have q3 := q2.grown hg9 q2.size fun k hk => (hown k hk).1
            go_roundw
            case rel => exact ⟨i + 1, ad9, c9, by go_num, by omega, by rw [hs2.out, List.length_append]; rfl, by rw [hs2.out, List.length_append]; exact hO9, q3⟩
            case measure => simp [intOf]; omega
    · obtain rfl : i = l.length := by omega
      have di : decide ((l.length : Int) < (l.length : Int)) = false := decide_eq_false (by omega)
      rw [List.take_length] at hO
      rw [List.take_length]
      go_wp2_with fail
      go_ret
      exact ⟨_, _, rfl, hO, q⟩
end Go.Proofs.Ytmcleffpjfeegaa
namespace Go.Proofs.Ytmcleffpjfeegaa
open Go.RowKit
theorem calls_of_wp_marks {P : Program} {f : FuncId} {fn : Func} {c : Code} {args : Array Value} {w : World} {R : Ending → World → Prop} (hf : P.funcs[f]? = some fn) (hb : fn.body = some c)
    (h : c.wp P (bodyPostM Fence.wide 3 P fn R) { tmps := args ++ Array.replicate (fn.ntmps - args.size) undef, defers := [] } w) : Calls P f args w R :=
  (callsIn_wide (n := 3)).1 (callsIn_of_wp_marks hf hb trivial (wpIn_wide.2 h) rfl)
end Go.Proofs.Ytmcleffpjfeegaa
namespace Go.Proofs.Ytmcleffpjfeegaa
open Go.RowKit
theorem boxN_own {β : Type} {N b : Nat} {t : TypeId} {vs : List Value} : OwnFrom N (fun (_ : β) W => BoxN W b t vs) := fun _ X _ _ hs hg hr =>
  hs.other hg fun e => by
    obtain ⟨_, o, ho, hc⟩ := hr _ e
    rw [show X.heap[b]? = _ from hs] at ho
    cases ho
    cases hc
theorem below_ownN {β : Type} {n₀ N : Nat} {w₀ : World} (h1 : n₀ ≤ w₀.heap.size) (h2 : n₀ ≤ N) : OwnFrom N (fun (_ : β) W => Below n₀ w₀ W) := fun _ _ _ _ hs hg hr =>
  hs.grown hg (Nat.le_trans h1 hs.size) fun k e => Nat.le_trans h2 (hr k e).1
section
variable {P : Program} {t : TypeId} {ops : Array Oper} {rest : List Oper} {o : Oper} {a : Act} {Q : Exit → Act → World → Prop} {w : World} {l n : Nat}
theorem inR_boxNew {vs : List Value} (hz : (P.info? t).bind (·.zero) = some (.agg vs.toArray)) (ho : o.op = .alloc t) (hgd : Region.wanted o (yielded ops a.tmps) = true) (h : ∀ w', Below w.heap.size w w' → BoxN w' w.heap.size t vs → wpListIn (Fence.wide.inRound l) n P ops Q rest (a.put o.dst (.pointer (some ⟨w.heap.size, 0, none⟩))) w') : wpListIn (Fence.wide.inRound l) n P ops Q (o :: rest) a w :=
  BigFrame.wpListIn_want hgd fun K hK => wp_opIn (K := K) (by rw [ho]; intro c h; cases h) (fun _ _ h => h) (wp_boxNew hz ho fun w' h1 h2 => hK _ _ (h w' h1 h2))
theorem inR_boxStore {vs us : List Value} {x y : Operand} {b : Nat} (hs : (P.info? t).map (·.size) = some us.length) (ho : o.op = .store t x y) (hd : o.dst = none) (hgd : Region.wanted o (yielded ops a.tmps) = true) (hx : a.eval x = .pointer (some ⟨b, 0, none⟩)) (hy : a.eval y = .agg us.toArray) (h1 : us.all (·.oneCell') = true) (hb : BoxN w b t vs) (hl : vs.length = us.length)
    (h : ∀ w', w.grownBy w' (some b) → BoxN w' b t us → wpListIn (Fence.wide.inRound l) n P ops Q rest a w') : wpListIn (Fence.wide.inRound l) n P ops Q (o :: rest) a w :=
  BigFrame.wpListIn_want hgd fun K hK => wp_opIn (K := K) (by rw [ho]; intro c h; cases h) (fun _ _ h => h) (wp_boxStore hs ho hx hy h1 hb hl fun w' h3 h4 => hK _ _ (by rw [hd]; exact h w' h3 h4))
end
end Go.Proofs.Ytmcleffpjfeegaa
