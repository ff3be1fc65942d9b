/-
  TEXTS OF ONE PROOF, merged: TreW, TreH, TrbG, TrbH, TreY.
-/
import Derived.Test.YtdegjkfjaklkjaaMf13
namespace Go.Proofs.Ytdegjkfjaklkjaa
open Go.RowKit
def smallP (t : Nat) (n : Nd) : Prop := n.keys.length ≤ 6 ∧ n.chains.length ≤ 6 ∧ n.kids.length ≤ 6 ∧ (∀ j (h : j < n.keys.length), n.keys[j].length ≤ 100) ∧ (∀ j (h : j < n.chains.length), n.chains[j].length ≤ 20 ∧ ∀ r (hr : r < n.chains[j].length), n.chains[j][r].value.length ≤ 100) ∧ (∀ j (h : j < n.kids.length), smallB t n.kids[j] = true)
theorem small_iff (t : Nat) (n : Nd) : smallB (t + 1) n = true ↔ smallP t n := by
  simp only [smallB, Bool.and_eq_true, decide_eq_true_eq, List.all_eq_true]
  unfold smallP
  constructor
  · rintro ⟨⟨⟨⟨⟨h1, h2⟩, h3⟩, h4⟩, h5⟩, h6⟩
    refine ⟨h1, h2, h3, fun j h => h4 _ (List.getElem_mem h), fun j h => ?_, fun j h => h6 _ (List.getElem_mem h)⟩
    obtain ⟨h7, h8⟩ := h5 _ (List.getElem_mem h)
    exact ⟨h7, fun r hr => h8 _ (List.getElem_mem hr)⟩
  · rintro ⟨h1, h2, h3, h4, h5, h6⟩
    refine ⟨⟨⟨⟨⟨h1, h2⟩, h3⟩, fun k hk => ?_⟩, fun c hc => ?_⟩, fun m hm => ?_⟩
    · obtain ⟨j, h, rfl⟩ := List.mem_iff_getElem.1 hk; exact h4 j h
    · obtain ⟨j, h, rfl⟩ := List.mem_iff_getElem.1 hc
      refine ⟨(h5 j h).1, fun x hx => ?_⟩
      obtain ⟨r, hr, rfl⟩ := List.mem_iff_getElem.1 hx
      exact (h5 j h).2 r hr
    · obtain ⟨j, h, rfl⟩ := List.mem_iff_getElem.1 hm; exact h6 j h
theorem small_no {t : Nat} {n : Nd} (h : ¬ smallP t n) : smallB (t + 1) n = false := by
  cases hb : smallB (t + 1) n with
  | false => rfl
  | true => exact absurd ((small_iff t n).1 hb) h
def SmallAt (t : Nat) : Prop := ∀ (n : Nd) (w : World) (S : Nat → Prop) (v : Value), t ≤ 1000 → RdN S w v n →
    Calls Try.prog 36 #[v, .int .i64 ((t : Int) - 1)] w fun e w' => e = .returned (.bool (smallB t n)) ∧ Below w.heap.size w w'
set_option maxRecDepth 100000 in
set_option maxHeartbeats 4000000 in
theorem smallN_step (t : Nat) (ih : SmallAt t) : SmallAt (t + 1) := by
    intro n w S v ht hr
    unfold SmallAt at ih
    obtain ⟨l1, l2, l3⟩ := hr.lens
    obtain ⟨a1, c1, a2, c2, a3, c3, rfl, r1, r2, r3⟩ := hr
    have hT := TriV.new w 26 (.slice a1 n.keys.length c1) (.slice a2 n.chains.length c2) (.slice a3 n.kids.length c3)
    have q : Below w.heap.size w (w.alloc (.cells #[.slice a1 n.keys.length c1, .slice a2 n.chains.length c2, .slice a3 n.kids.length c3] 26)) := (Below.refl _ _).alloc (Nat.le_refl _) _
    have e0 : ((t + 1 : Nat) : Int) - 1 = (t : Int) := by omega
    rw [e0]
    clear e0
    have HNO := Lib.hid (small_no (t := t) (n := n))
    have dt : decide ((t : Int) < 0) = false := decide_eq_false (by omega)
    go_enter Try.func36, Try.ntmps36
    go_upto_region 1 with (fail)
    generalize w.alloc (.cells #[.slice a1 n.keys.length c1, .slice a2 n.chains.length c2, .slice a3 n.kids.length c3] 26) = W at *
    have t0 := hT.cell0
    have t1 := hT.cell1
    have t2 := hT.cell2
    by_cases h1 : 6 < n.keys.length
    · have H := Lib.hid (HNO.out fun h => by have := h.1; omega)
      have d1 : decide ((6 : Int) < n.keys.length) = true := decide_eq_true (by omega)
      go_wp2_with fail
      go_ret
      exact ⟨by rw [H.out]; rfl, q⟩
    · have d1 : decide ((6 : Int) < n.keys.length) = false := decide_eq_false (by omega)
      by_cases h2 : 6 < n.chains.length
      · have H := Lib.hid (HNO.out fun h => by have := h.2.1; omega)
        have d2 : decide ((6 : Int) < n.chains.length) = true := decide_eq_true (by omega)
        go_wp2_with fail
        go_ret
        exact ⟨by rw [H.out]; rfl, q⟩
      · have d2 : decide ((6 : Int) < n.chains.length) = false := decide_eq_false (by omega)
        by_cases h3 : 6 < n.kids.length
        · have H := Lib.hid (HNO.out fun h => by have := h.2.2.1; omega)
          have d3 : decide ((6 : Int) < n.kids.length) = true := decide_eq_true (by omega)
          go_wp2_with fail
          go_ret
          exact ⟨by rw [H.out]; rfl, q⟩
        · have d3 : decide ((6 : Int) < n.kids.length) = false := decide_eq_false (by omega)
          have H1 := Lib.hid (show n.keys.length ≤ 6 ∧ n.chains.length ≤ 6 ∧ n.kids.length ≤ 6 from ⟨by omega, by omega, by omega⟩)
          go_upto_region 4 with (fail)
          clear d1 d2 d3 h1 h2 h3
          go_loopw [5] (fun iv wr => ∃ i : Nat, iv = .int .i64 i ∧ i ≤ n.keys.length ∧ (∀ j (h : j < n.keys.length), j < i → n.keys[j].length ≤ 100) ∧ W = wr) (fun i _ => n.keys.length - (intOf i).toNat)
          case atStart => exact ⟨0, rfl, Nat.zero_le _, fun j _ h => absurd h (Nat.not_lt_zero _), rfl⟩
          case round =>
            obtain ⟨i, rfl, hil, hall, rfl⟩ := hrel
            rcases Nat.lt_or_ge i n.keys.length with hlt | hge
            · obtain ⟨b, off, Ak, C, rfl, c0, hky⟩ := (r1.below q).byt i hlt
              have hkl := hky.len
              unfold maxLen at hkl
              by_cases h : 100 < n.keys[i].length
              · have H := Lib.hid (HNO.out fun hs => by have := hs.2.2.2.1 i hlt; omega)
                have d1 : decide ((100 : Int) < n.keys[i].length) = true := decide_eq_true (by omega)
                clear hall
                go_wp2_with fail
                go_ret
                exact ⟨by rw [H.out]; rfl, q⟩
              · have d1 : decide ((100 : Int) < n.keys[i].length) = false := decide_eq_false (by omega)
                have hall' : ∀ j (h : j < n.keys.length), j < i + 1 → n.keys[j].length ≤ 100 := fun j hj h5 => by
                  rcases Nat.lt_or_ge j i with h6 | h6
                  · exact hall j hj h6
                  · obtain rfl : j = i := by omega
                    omega
                have HA := Lib.hid hall'
                clear hall hall' h
                go_wp2_with fail
                go_roundw
                case rel => exact ⟨i + 1, by go_num, by omega, HA.out, by first | rfl | trivial⟩
                case measure => simp [intOf]; omega
            · obtain rfl : i = n.keys.length := by omega
              have HK := Lib.hid hall
              clear hall
              go_upto_region 9 with (fail)
              go_loopw [6] (fun iv wr => ∃ i : Nat, iv = .int .i64 i ∧ i ≤ n.chains.length ∧ (∀ j (h : j < n.chains.length), j < i → n.chains[j].length ≤ 20 ∧ ∀ r (hr : r < n.chains[j].length), n.chains[j][r].value.length ≤ 100) ∧ W = wr) (fun i _ => n.chains.length - (intOf i).toNat)
              case atStart => exact ⟨0, rfl, Nat.zero_le _, fun j _ h => absurd h (Nat.not_lt_zero _), rfl⟩
              case round =>
                obtain ⟨i, rfl, hil, hall, rfl⟩ := hrel
                rcases Nat.lt_or_ge i n.chains.length with hlt | hge
                · obtain ⟨b, off, Ak, C, rfl, c0, hcc⟩ := (r2.below q).lst i hlt
                  have hkl := hcc.len
                  unfold maxLen at hkl
                  by_cases h : 20 < n.chains[i].length
                  · have H := Lib.hid (HNO.out fun hs => by have := (hs.2.2.2.2.1 i hlt).1; omega)
                    have d1 : decide ((20 : Int) < n.chains[i].length) = true := decide_eq_true (by omega)
                    clear hall
                    go_wp2_with fail
                    go_ret
                    exact ⟨by rw [H.out]; rfl, q⟩
                  · have d1 : decide ((20 : Int) < n.chains[i].length) = false := decide_eq_false (by omega)
                    have HA := Lib.hid hall
                    have H20 := Lib.hid (show n.chains[i].length ≤ 20 by omega)
                    clear hall h
                    go_upto_region 14 with (fail)
                    go_loopw [7] (fun iv wr => ∃ r : Nat, iv = .int .i64 r ∧ r ≤ n.chains[i].length ∧ (∀ j (h : j < n.chains[i].length), j < r → n.chains[i][j].value.length ≤ 100) ∧ W = wr) (fun r _ => n.chains[i].length - (intOf r).toNat)
                    case atStart => exact ⟨0, rfl, Nat.zero_le _, fun j _ h => absurd h (Nat.not_lt_zero _), rfl⟩
                    case round =>
                      obtain ⟨r, rfl, hrl, hrall, rfl⟩ := hrel
                      rcases Nat.lt_or_ge r n.chains[i].length with hrlt | hrge
                      · obtain ⟨b2, off2, A2, C2, rfl, hb2, k0, k1, k2, hv, hi, hn1, hn2⟩ := hcc.ver r hrlt
                        unfold maxLen at hn2
                        by_cases h : 100 < n.chains[i][r].value.length
                        · have H := Lib.hid (HNO.out fun hs => by have := (hs.2.2.2.2.1 i hlt).2 r hrlt; omega)
                          have d2 : decide ((100 : Int) < n.chains[i][r].value.length) = true := decide_eq_true (by omega)
                          clear hrall
                          go_wp2_with fail
                          go_ret
                          exact ⟨by rw [H.out]; rfl, q⟩
                        · have d2 : decide ((100 : Int) < n.chains[i][r].value.length) = false := decide_eq_false (by omega)
                          have hall' : ∀ j (h : j < n.chains[i].length), j < r + 1 → n.chains[i][j].value.length ≤ 100 := fun j hj h5 => by
                            rcases Nat.lt_or_ge j r with h6 | h6
                            · exact hrall j hj h6
                            · obtain rfl : j = r := by omega
                              omega
                          have HA2 := Lib.hid hall'
                          clear hrall hall' h
                          go_wp2_with fail
                          go_roundw
                          case rel => exact ⟨r + 1, by go_num, by omega, HA2.out, by first | rfl | trivial⟩
                          case measure => simp [intOf]; omega
                      · obtain rfl : r = n.chains[i].length := by omega
                        have hall' : ∀ j (h : j < n.chains.length), j < i + 1 → n.chains[j].length ≤ 20 ∧ ∀ r (hr : r < n.chains[j].length), n.chains[j][r].value.length ≤ 100 := fun j hj h5 => by
                          rcases Nat.lt_or_ge j i with h6 | h6
                          · exact HA.out j hj h6
                          · obtain rfl : j = i := by omega
                            exact ⟨H20.out, fun r hr => hrall r hr hr⟩
                        have HA2 := Lib.hid hall'
                        clear hrall hall'
                        go_wp2_with fail
                        go_roundw
                        case rel => exact ⟨i + 1, by go_num, by omega, HA2.out, by first | rfl | trivial⟩
                        case measure => simp [intOf]; omega
                · obtain rfl : i = n.chains.length := by omega
                  have HC := Lib.hid hall
                  clear hall
                  go_upto_region 19 with (fail)
                  go_loopw [8] (fun iv wr => ∃ i : Nat, iv = .int .i64 i ∧ i ≤ n.kids.length ∧ (∀ j (h : j < n.kids.length), j < i → smallB t n.kids[j] = true) ∧ TriV wr w.heap.size 26 (.slice a1 n.keys.length c1) (.slice a2 n.chains.length c2) (.slice a3 n.kids.length c3) ∧ Below w.heap.size w wr) (fun i _ => n.kids.length - (intOf i).toNat)
                  case atStart => exact ⟨0, rfl, Nat.zero_le _, fun j _ h => absurd h (Nat.not_lt_zero _), hT, q⟩
                  case round =>
                    clear hT q t0 t1 t2
                    obtain ⟨i, rfl, hil, hall, hT, q⟩ := hrel
                    have t0 := hT.cell0
                    have t1 := hT.cell1
                    have t2 := hT.cell2
                    rcases Nat.lt_or_ge i n.kids.length with hlt | hge
                    · obtain ⟨b3, off3, x1, y1, x2, y2, x3, y3, rfl, k0, k1, k2, hkr⟩ := (r3.below q).kid i hlt
                      go_wp2_with fail
                      refine (ih n.kids[i] _ S _ (by omega) hkr).mono ?_
                      rintro e w1 ⟨rfl, hb⟩
                      replace q := q.trans (hb.mono q.size)
                      replace hT := hT.below hb hT.lt
                      clear hb k0 k1 k2 hkr t0 t1 t2
                      cases hs : smallB t n.kids[i] with
                      | true =>
                        have hall' : ∀ j (h : j < n.kids.length), j < i + 1 → smallB t n.kids[j] = true := fun j hj h5 => by
                          rcases Nat.lt_or_ge j i with h6 | h6
                          · exact hall j hj h6
                          · obtain rfl : j = i := by omega
                            exact hs
                        have HA2 := Lib.hid hall'
                        clear hall hall' hs
                        go_wp2_with fail
                        go_roundw
                        case rel => exact ⟨i + 1, by go_num, by omega, HA2.out, hT, q⟩
                        case measure => simp [intOf]; omega
                      | false =>
                        have H := Lib.hid (HNO.out fun h => by have := h.2.2.2.2.2 i hlt; rw [hs] at this; cases this)
                        clear hall hs
                        go_wp2_with fail
                        go_ret
                        exact ⟨by rw [H.out]; rfl, q⟩
                    · obtain rfl : i = n.kids.length := by omega
                      have H := Lib.hid ((small_iff t n).2 ⟨H1.out.1, H1.out.2.1, H1.out.2.2, fun j h => HK.out j h h, fun j h => HC.out j h h, fun j h => hall j h h⟩)
                      clear hall
                      go_wp2_with fail
                      go_ret
                      exact ⟨by rw [H.out]; rfl, q⟩
set_option maxRecDepth 100000 in
set_option maxHeartbeats 1000000 in
theorem smallN_zero : SmallAt 0 := by
    intro n w S v _ hr
    obtain ⟨l1, l2, l3⟩ := hr.lens
    obtain ⟨a1, c1, a2, c2, a3, c3, rfl, r1, r2, r3⟩ := hr
    have q : Below w.heap.size w (w.alloc (.cells #[.slice a1 n.keys.length c1, .slice a2 n.chains.length c2, .slice a3 n.kids.length c3] 26)) := (Below.refl _ _).alloc (Nat.le_refl _) _
    have e0 : ((0 : Nat) : Int) - 1 = -1 := by omega
    rw [e0]
    go_enter Try.func36, Try.ntmps36
    go_wp2_with fail
    go_ret
    exact ⟨rfl, q⟩
theorem smallN_any (t : Nat) : SmallAt t := by
  induction t with
  | zero => exact smallN_zero
  | succ t ih => exact smallN_step t ih
end Go.Proofs.Ytdegjkfjaklkjaa
namespace Go.Proofs.Ytdegjkfjaklkjaa
open Go.ChangeShapes Go.WideShapes Go.ChangeAt Go.RowKit Go.Deep
def oneV (s : Int) : List Ver := [⟨s, false, []⟩]
theorem oneV_small (s : Int) : smallV (oneV s) := by
  refine ⟨by simp [oneV], fun x hx => ?_⟩
  have h : x = ⟨s, false, []⟩ := by simpa [oneV] using hx
  subst h
  simp
theorem one_rd (w1 : World) {s : Int} (hi : I64' s) :
    RdL Elt.ver (fun k => w1.heap.size ≤ k ∧ k < (w1.alloc (.cells #[.int .i64 s, .bool false, .slice none 0 0] 61)).heap.size) (w1.alloc (.cells #[.int .i64 s, .bool false, .slice none 0 0] 61)) (.slice (some ⟨w1.heap.size, 0, none⟩) 1 1) (oneV s) := by
  have hc := cells_new w1 [.int .i64 s, .bool false, .slice none 0 0] 61
  simp only [Addr.add_lit] at hc
  have c0 := hc 0 _ rfl
  have c1 := hc 1 _ rfl
  have c2 := hc 2 _ rfl
  clear hc
  have hsz : (w1.alloc (.cells #[.int .i64 s, .bool false, .slice none 0 0] 61)).heap.size = w1.heap.size + 1 := World.size_alloc _ _
  generalize w1.alloc (.cells #[.int .i64 s, .bool false, .slice none 0 0] 61) = w2 at *
  refine ⟨_, 1, rfl, Nat.le_refl _, by unfold maxLen; omega, .inr ⟨w1.heap.size, 0, rfl, ⟨Nat.le_refl _, by omega⟩, fun r hr => ?_⟩⟩
  obtain rfl : r = 0 := by simp [oneV] at hr; omega
  refine ⟨verC ⟨s, false, []⟩ (.slice none 0 0), ⟨_, rfl, RdS.nil _ _, hi⟩, fun j u hu => ?_⟩
  rcases j with _ | _ | _ | j
  · cases hu; exact c0
  · cases hu; exact c1
  · cases hu; exact c2
  · simp [verC] at hu
def OneEnd (w : World) (s : Int) (e : Ending) (w' : World) : Prop := ∃ a c, e = .returned (.slice a 1 c) ∧ RdL Elt.ver (fun k => w.heap.size ≤ k ∧ k < w'.heap.size) w' (.slice a 1 c) (oneV s) ∧ Below w.heap.size w w'
set_option maxHeartbeats 1000000 in
theorem one_any (w : World) {s : Int} (hi : I64' s) : Calls Try.prog 34 #[.int .i64 s] w (OneEnd w s) := by
  have hR := one_rd w hi
  have q : Below w.heap.size w (w.alloc (.cells #[.int .i64 s, .bool false, .slice none 0 0] 61)) := (Below.refl _ _).alloc (Nat.le_refl _) _
  go_enter Try.func34, Try.ntmps34
  go_wp2_with fail
  go_ret
  exact ⟨_, _, rfl, hR, q⟩
def SmallNEnd (w : World) (n : Nd) (c : List Ver) (e : Ending) (w' : World) : Prop := ∃ r, e = .returned (.bool r) ∧ (r = true → c.length ≤ 20 ∧ (∀ x ∈ c, x.value.length ≤ 100) ∧ smallB 5 n = true) ∧ Below w.heap.size w w'
set_option maxRecDepth 100000 in
set_option maxHeartbeats 2000000 in
theorem smallLaw_any (w : World) {S S2 : Nat → Prop} {v : Value} {n : Nd} {a : Option Addr} {m c : Nat} {l : List Ver} (hr : RdN S w v n) (hl : RdL Elt.ver S2 w (.slice a m c) l) :
    Calls Try.prog 13 #[v, .slice a m c] w (SmallNEnd w n l) := by
  have hr0 := hr
  obtain ⟨rfl, hnc, hcm⟩ := hl.len
  have hlm : l.length ≤ 9223372036854775807 := by unfold maxLen at hcm; omega
  obtain ⟨a1, c1, a2, c2, a3, c3, rfl, r1, r2, r3⟩ := hr
  have hT := TriV.new w 26 (.slice a1 n.keys.length c1) (.slice a2 n.chains.length c2) (.slice a3 n.kids.length c3)
  have q : Below w.heap.size w (w.alloc (.cells #[.slice a1 n.keys.length c1, .slice a2 n.chains.length c2, .slice a3 n.kids.length c3] 26)) := (Below.refl _ _).alloc (Nat.le_refl _) _
  go_enter Try.func13, Try.ntmps13
  go_upto_region 1 with (fail)
  generalize w.alloc (.cells #[.slice a1 n.keys.length c1, .slice a2 n.chains.length c2, .slice a3 n.kids.length c3] 26) = W at *
  by_cases h1 : 20 < l.length
  · have d : decide ((20 : Int) < l.length) = true := decide_eq_true (by omega)
    clear h1
    go_wp2_with fail
    go_ret
    exact ⟨false, rfl, fun h => (by cases h), q⟩
  · have d : decide ((20 : Int) < l.length) = false := decide_eq_false (by omega)
    have h20 := Lib.hid (show l.length ≤ 20 by omega)
    go_upto_region 4 with (fail)
    clear d h1
    go_loopw [5] (fun i wr => ∃ k : Nat, i = .int .i64 k ∧ k ≤ l.length ∧ (∀ r (hr : r < l.length), r < k → l[r].value.length ≤ 100) ∧ W = wr) (fun i _ => l.length - (intOf i).toNat)
    case atStart => exact ⟨0, rfl, Nat.zero_le _, fun r _ h => by omega, rfl⟩
    case round =>
      obtain ⟨k, rfl, hkl, hle, rfl⟩ := hrel
      rcases Nat.lt_or_ge k l.length with hlt | hge
      · obtain ⟨b, off, A, C, rfl, hb, c0, c1, c2, hv, hi, hn1, hn2⟩ := (hl.below q).ver k hlt
        unfold maxLen at hn2
        by_cases hbig : 100 < l[k].value.length
        · have d3 : decide ((100 : Int) < l[k].value.length) = true := decide_eq_true (by omega)
          clear hbig hle
          go_wp2_with fail
          go_ret
          exact ⟨false, rfl, fun h => (by cases h), q⟩
        · have d3 : decide ((100 : Int) < l[k].value.length) = false := decide_eq_false (by omega)
          have hle' : ∀ r (hr : r < l.length), r < k + 1 → l[r].value.length ≤ 100 := fun r hr h => by
            rcases Nat.lt_or_ge r k with h4 | h4
            · exact hle r hr h4
            · obtain rfl : r = k := by omega
              omega
          have HLE := Lib.hid hle'
          clear hle hle' hbig
          go_wp2_with fail
          go_roundw
          case rel => exact ⟨k + 1, by go_num, by omega, HLE.out, by first | rfl | trivial⟩
          case measure => simp [intOf]; omega
      · obtain rfl : k = l.length := by omega
        have HLE := Lib.hid (show ∀ x ∈ l, x.value.length ≤ 100 from fun x h => by obtain ⟨r, hr, rfl⟩ := List.mem_iff_getElem.1 h; exact hle r hr hr)
        have t0 := hT.cell0
        have t1 := hT.cell1
        have t2 := hT.cell2
        clear hle
        go_wp2_with fail
        refine (smallN_any 5 n _ S _ (by omega) (hr0.below q)).mono ?_
        rintro e w2 ⟨rfl, hb⟩
        go_wp2_with fail
        go_ret
        exact ⟨_, rfl, fun h => ⟨h20.out, HLE.out, h⟩, q.trans (hb.mono q.size)⟩
section
variable {P : Program} {t e : TypeId}
theorem opens_listF {α : Type} {E : Elt α} (ht : P.underlying t = some (.slice e)) (hc : P.cellsOf e = E.size) {H : Type} {enc : TypeId × Value → H} {w : World} {base : Nat} {held : Bool} {fuel : Nat} {cs : List Value} {x : DataW H × List MemPlace} (h : DataW.trod enc P w base (fun _ => true) held fuel t cs = some x)
    (hE : ∀ n, n < fuel → ∀ cs x, DataW.trod enc P w base (fun _ => true) held n e cs = some x → ∃ d, E.R (· < w.heap.size) w d cs) : ∃ l v, cs = [v] ∧ RdL E (· < w.heap.size) w v l := by
  rcases DataW.trod_slice ht h with ⟨rfl, _⟩ | ⟨a, len, cap, elems, rest, n, hf, rfl, _, hb, hl, hm, hlen, hel, _, _⟩
  · exact ⟨[], _, rfl, RdL.nil _ _ _⟩
  · obtain ⟨l, hll, hp⟩ := choose_list (p := fun i d => ∃ cs', E.R (· < w.heap.size) w d cs' ∧ ∀ j, j < cs'.length → w.cell? (a.add (i * E.size + j)) = cs'[j]?) len (fun i hil => by
      have h1 := hel i hil
      rw [List.getElem?_eq_getElem (by omega)] at h1
      obtain ⟨cs', h2, h3⟩ := Option.bind_eq_some_iff.1 h1
      obtain ⟨d, hd⟩ := hE n (by omega) cs' _ h3
      obtain ⟨_, hcl, hat⟩ := World.cells?_some h2
      refine ⟨d, cs', hd, fun j hj => ?_⟩
      have := hat j (by omega)
      rw [add_add, hc] at this
      exact this)
    refine ⟨l, _, rfl, ?_⟩
    rw [← hll] at hl ⊢
    refine ⟨some a, cap, rfl, hl, hm, ?_⟩
    rcases Nat.eq_zero_or_pos l.length with h0 | h0
    · exact .inl (List.eq_nil_of_length_eq_zero h0)
    · obtain ⟨cs0, hR0, hc0⟩ := hp 0 h0
      have hl0 := E.len hR0
      have hpos := E.pos
      have hcell := hc0 0 (by omega)
      rw [List.getElem?_eq_getElem (by omega)] at hcell
      obtain ⟨b, off, spot⟩ := a
      have hspot : spot = none := by simpa [Addr.add] using World.cell?_spot hcell
      subst hspot
      have hblt := World.block_lt_of_cell? w _ hcell
      refine .inr ⟨b, off, rfl, by simpa [Addr.add_lit] using hblt, fun r hr => ?_⟩
      obtain ⟨cs', hR, hcs⟩ := hp r hr
      refine ⟨cs', hR, fun j u hj => ?_⟩
      have := hcs j (List.getElem?_eq_some_iff.1 hj).1
      rw [hj, Addr.add_lit, ← Nat.add_assoc] at this
      exact this
end
set_option maxRecDepth 4000 in
theorem opens_nodeF : ∀ (F : Nat) {H : Type} {enc : TypeId × Value → H} {w : World} {base : Nat} {held : Bool} {fuel : Nat} {cs : List Value} {x : DataW H × List MemPlace}, fuel ≤ F → DataW.trod enc Try.prog w base (fun _ => true) held fuel 26 cs = some x → ∃ d, Elt.nd.R (· < w.heap.size) w d cs := by
  intro F
  induction F with
  | zero =>
    intro H enc w base held fuel cs x hF h
    obtain ⟨xs, n, hn, _⟩ := DataW.trod_struct Try.underlying26 h
    omega
  | succ F ih =>
    intro H enc w base held fuel cs x hF h
    obtain ⟨xs, n, hn, _, hl, hlen, hf⟩ := DataW.trod_struct Try.underlying26 h
    have hc : cs.length = 3 := hl.trans (by kernel_rfl)
    match cs, hc, xs, hlen with
    | [u, v, r], _, [y0, y1, y2], _ =>
      have h0 : DataW.trod enc Try.prog w base (fun _ => true) held n 22 [u] = some y0 := hf 0 _ rfl
      have h1 : DataW.trod enc Try.prog w base (fun _ => true) held n 23 [v] = some y1 := hf 1 _ rfl
      have h2 : DataW.trod enc Try.prog w base (fun _ => true) held n 24 [r] = some y2 := hf 2 _ rfl
      obtain ⟨ks, u', hu, hku⟩ := opens_listF (E := Elt.bytes) (P := Try.prog) (t := 22) (e := 27) (by kernel_rfl) (by kernel_rfl) h0 (fun m _ cs x h => Opens.bytes (P := Try.prog) (t := 27) (e := 5) (by kernel_rfl) (by kernel_rfl) (by kernel_rfl) h)
      obtain ⟨chs, v', hv, hcv⟩ := opens_listF (E := Elt.list Elt.ver) (P := Try.prog) (t := 23) (e := 32) (by kernel_rfl) (by kernel_rfl) h1 (fun m _ cs x h => opens_vers h)
      obtain ⟨ns, r', hr, hnr⟩ := opens_listF (E := Elt.nd) (P := Try.prog) (t := 24) (e := 26) (by kernel_rfl) (by kernel_rfl) h2 (fun m hm cs x h => ih (by omega) h)
      cases hu; cases hv; cases hr
      exact ⟨.mk ks chs ns, nd_in hku hcv hnr⟩
theorem opens_node : Opens Try.prog 26 Elt.nd := fun {_ _ _ _ _ fuel _ _} h => opens_nodeF fuel (Nat.le_refl _) h
end Go.Proofs.Ytdegjkfjaklkjaa
namespace Go.Proofs.Ytdegjkfjaklkjaa
open Go.RowKit
def newB (W : World) (z : Option Value) (w : World) (g : Nat) : Prop := W.heap.size ≤ g ∧ g < w.heap.size ∧ ∀ b, z = some (.pointer (some ⟨b, 0, none⟩)) → g ≠ b
def newC (W : World) (o0 z : Option Value) (w : World) (g : Nat) : Prop := newB W z w g ∧ ∀ b n m, o0 = some (.slice (some ⟨b, 0, none⟩) n m) → g ≠ b
structure RdP (R : (Nat → Prop) → World → Value → Value → Prop) : Prop where
  keep : ∀ {S w w' v e}, R S w v e → (∀ k, S k → w'.heap[k]? = w.heap[k]?) → R S w' v e
  weak : ∀ {S S' w v e}, R S w v e → (∀ k, S k → S' k) → R S' w v e
structure CbS (hk : Bool) (C0 : Array Value) (E0 : TypeId) (R : (Nat → Prop) → World → Value → Value → Prop) (Z : Obj) (Bx : World → Nat → Value → Prop) (K1 K2 : (Nat → Prop) → World → Value → Prop) (W : World) (o0 o1 o2 c m x y z s : Option Value) (w : World) : Prop where
  be : Below W.heap.size W w
  k0 : ∀ u, o0 = some u → ∃ g, u = .slice (some ⟨g, 0, none⟩) C0.size C0.size ∧ newB W z w g ∧ (o1 = none → w.heap[g]? = some (.cells C0 E0 (0, 0)))
  k1 : ∀ u, o1 = some u → K1 (newB W z w) w u
  k2 : ∀ u, o2 = some u → K2 (newC W o0 z w) w u
  rr : ∀ u, c = some u → ∃ v e, u = .tuple #[v, e] ∧ R (newC W o0 z w) w v e
  mv : ∀ u, m = some u → c = some u
  mx : ∀ u, x = some u → ∃ e, m = some (.tuple #[u, e])
  my : ∀ u, y = some u → ∃ v, m = some (.tuple #[v, u])
  zz : ∀ u, z = some u → ∃ b, u = .pointer (some ⟨b, 0, none⟩) ∧ W.heap.size ≤ b ∧ b < w.heap.size ∧ (s = none → w.heap[b]? = some Z)
  sc : s ≠ none → c ≠ none
  dk : hk = true → c ≠ none → o0 ≠ none ∧ o1 ≠ none
  d1 : hk = true → o1 ≠ none → o0 ≠ none
  ss : ∀ u, s = some u → ∃ b v, z = some (.pointer (some ⟨b, 0, none⟩)) ∧ x = some v ∧ Bx w b v
section
variable {hk : Bool} {C0 : Array Value} {E0 : TypeId} {R : (Nat → Prop) → World → Value → Value → Prop} {Z : Obj} {Bx : World → Nat → Value → Prop} {K1 K2 : (Nat → Prop) → World → Value → Prop} {W w w' : World} {o0 o1 o2 c m x y z s : Option Value}
theorem CbS.start (W : World) : CbS hk C0 E0 R Z Bx K1 K2 W none none none none none none none none none W where
  be := Below.refl _ _
  k0 _ h := by cases h
  k1 _ h := by cases h
  k2 _ h := by cases h
  rr _ h := by cases h
  mv _ h := by cases h
  mx _ h := by cases h
  my _ h := by cases h
  zz _ h := by cases h
  sc h := absurd rfl h
  dk _ h := absurd rfl h
  d1 _ h := absurd rfl h
  ss _ h := by cases h
structure Stays (R : (Nat → Prop) → World → Value → Value → Prop) (Bx : World → Nat → Value → Prop) (K1 K2 : (Nat → Prop) → World → Value → Prop) : Prop extends RdP R where
  bx : ∀ {w w' b v}, Bx w b v → Below w.heap.size w w' → Bx w' b v
  s1 : ∀ {S w w' u}, K1 S w u → (∀ k, S k → w'.heap[k]? = w.heap[k]?) → K1 S w' u
  w1 : ∀ {S S' w u}, K1 S w u → (∀ k, S k → S' k) → K1 S' w u
  s2 : ∀ {S w w' u}, K2 S w u → (∀ k, S k → w'.heap[k]? = w.heap[k]?) → K2 S w' u
  w2 : ∀ {S S' w u}, K2 S w u → (∀ k, S k → S' k) → K2 S' w u
theorem CbS.more (hS : Stays R Bx K1 K2) (h : CbS hk C0 E0 R Z Bx K1 K2 W o0 o1 o2 c m x y z s w) (hb : Below w.heap.size w w') : CbS hk C0 E0 R Z Bx K1 K2 W o0 o1 o2 c m x y z s w' where
  be := h.be.trans (hb.mono h.be.size)
  k0 u hu := by
    obtain ⟨g, e, h1, h2⟩ := h.k0 u hu
    exact ⟨g, e, ⟨h1.1, Nat.lt_of_lt_of_le h1.2.1 hb.size, h1.2.2⟩, fun h3 => (hb.block g h1.2.1).trans (h2 h3)⟩
  k1 u hu := hS.w1 (hS.s1 (h.k1 u hu) fun k hk => hb.block k hk.2.1) fun k hk => ⟨hk.1, Nat.lt_of_lt_of_le hk.2.1 hb.size, hk.2.2⟩
  k2 u hu := hS.w2 (hS.s2 (h.k2 u hu) fun k hk => hb.block k hk.1.2.1) fun k hk => ⟨⟨hk.1.1, Nat.lt_of_lt_of_le hk.1.2.1 hb.size, hk.1.2.2⟩, hk.2⟩
  rr u hu := by
    obtain ⟨v, e, e1, h1⟩ := h.rr u hu
    exact ⟨v, e, e1, hS.weak (hS.keep h1 fun k hk => hb.block k hk.1.2.1) fun k hk => ⟨⟨hk.1.1, Nat.lt_of_lt_of_le hk.1.2.1 hb.size, hk.1.2.2⟩, hk.2⟩⟩
  mv := h.mv
  mx := h.mx
  my := h.my
  zz u hu := by
    obtain ⟨b, e, h1, h2, h3⟩ := h.zz u hu
    exact ⟨b, e, h1, Nat.lt_of_lt_of_le h2 hb.size, fun hs => (hb.block b h2).trans (h3 hs)⟩
  sc := h.sc
  dk := h.dk
  d1 := h.d1
  ss u hu := by
    obtain ⟨b, v, e1, e2, h1⟩ := h.ss u hu
    exact ⟨b, v, e1, e2, hS.bx h1 hb⟩
theorem CbS.new (h : CbS hk C0 E0 R Z Bx K1 K2 W o0 o1 o2 c m x y z s w) {w' : World} {g : Nat} (hg : w.heap.size ≤ g ∧ g < w'.heap.size) : newB W z w' g :=
  ⟨Nat.le_trans h.be.size hg.1, hg.2, fun b hz => by
    obtain ⟨b', e', _, h4, _⟩ := h.zz _ hz
    injection e' with e'
    injection e' with e'
    injection e' with e'
    omega⟩
theorem CbS.newOwn (h : CbS hk C0 E0 R Z Bx K1 K2 W o0 o1 o2 c m x y z s w) {w' : World} {g : Nat} (hg : w.heap.size ≤ g ∧ g < w'.heap.size) : newC W o0 z w' g :=
  ⟨h.new hg, fun b n' m' e => by
    obtain ⟨g', e', h1, _⟩ := h.k0 _ e
    injection e' with e'
    injection e' with e'
    injection e' with e'
    have := h1.2.1
    omega⟩
theorem CbS.key (hS : Stays R Bx K1 K2) (h : CbS hk C0 E0 R Z Bx K1 K2 W o0 none o2 c m x y z s w) (hh : hk = false) {u : Value} (hb : Below w.heap.size w w') (hu : K1 (fun g => w.heap.size ≤ g ∧ g < w'.heap.size) w' u) : CbS hk C0 E0 R Z Bx K1 K2 W o0 (some u) o2 c m x y z s w' :=
  { h.more hS hb with
    k0 := fun u' e => by
      obtain ⟨g, e1, h1, _⟩ := (h.more hS hb).k0 u' e
      exact ⟨g, e1, h1, fun e => by cases e⟩
    dk := fun h1 _ => by rw [hh] at h1; cases h1
    d1 := fun h1 _ => by rw [hh] at h1; cases h1
    k1 := fun u' e => by injection e with e; exact e ▸ hS.w1 hu fun g hg => h.new hg }
theorem CbS.key0 (hS : Stays R Bx K1 K2) (h : CbS hk C0 E0 R Z Bx K1 K2 W none o1 o2 c m x y z s w) (hh : hk = true) (hb : Below w.heap.size w w') (hz : w'.heap[w.heap.size]? = some (.cells C0 E0 (0, 0))) : CbS hk C0 E0 R Z Bx K1 K2 W (some (.slice (some ⟨w.heap.size, 0, none⟩) C0.size C0.size)) o1 o2 c m x y z s w' := by
  have h2 := h.more hS hb
  have hn : ∀ k, newC W none z w k → newC W (some (.slice (some ⟨w.heap.size, 0, none⟩) C0.size C0.size)) z w' k := fun k hk => ⟨⟨hk.1.1, Nat.lt_of_lt_of_le hk.1.2.1 hb.size, hk.1.2.2⟩, fun b n m e => by
    injection e with e
    injection e with e
    injection e with e
    injection e with e
    have := hk.1.2.1
    omega⟩
  exact { h2 with
    k0 := fun u hu => by
      injection hu with hu
      exact ⟨_, hu.symm, h.new ⟨Nat.le_refl _, (Array.getElem?_eq_some_iff.1 hz).1⟩, fun _ => hz⟩
    dk := fun _ hc => absurd rfl (h.dk hh hc).1
    d1 := fun _ _ => by simp
    k2 := fun u hu => hS.w2 (hS.s2 (h.k2 u hu) fun k hk => hb.block k hk.1.2.1) hn
    rr := fun u hu => by
      obtain ⟨v, e, e1, h1⟩ := h.rr u hu
      exact ⟨v, e, e1, hS.weak (hS.keep h1 fun k hk => hb.block k hk.1.2.1) hn⟩ }
theorem CbS.conv (hS : Stays R Bx K1 K2) {g : Nat} (h : CbS hk C0 E0 R Z Bx K1 K2 W (some (.slice (some ⟨g, 0, none⟩) C0.size C0.size)) none o2 c m x y z none w) (hg : w.grownBy w' (some g)) (hu : K1 (· = g) w' (.slice (some ⟨g, 0, none⟩) C0.size C0.size)) : CbS hk C0 E0 R Z Bx K1 K2 W (some (.slice (some ⟨g, 0, none⟩) C0.size C0.size)) (some (.slice (some ⟨g, 0, none⟩) C0.size C0.size)) o2 c m x y z none w' := by
  obtain ⟨g', e, h1, _⟩ := h.k0 _ rfl
  injection e with e
  injection e with e
  injection e with e
  subst e
  have hkb : ∀ k, newC W (some (.slice (some ⟨g, 0, none⟩) C0.size C0.size)) z w k → w'.heap[k]? = w.heap[k]? := fun k hk => hg.block k hk.1.2.1 fun e => by injection e with e; exact hk.2 _ _ _ rfl e
  have hsz : ∀ k, newC W (some (.slice (some ⟨g, 0, none⟩) C0.size C0.size)) z w k → newC W (some (.slice (some ⟨g, 0, none⟩) C0.size C0.size)) z w' k := fun k hk => ⟨⟨hk.1.1, Nat.lt_of_lt_of_le hk.1.2.1 hg.size, hk.1.2.2⟩, hk.2⟩
  have hbn : newB W z w' g := ⟨h1.1, Nat.lt_of_lt_of_le h1.2.1 hg.size, h1.2.2⟩
  exact { h with
    be := h.be.grown hg h.be.size fun k e => by injection e with e; have := h1.1; omega
    k0 := fun u hu => by
      injection hu with hu
      exact ⟨g, hu.symm, hbn, fun e => by cases e⟩
    dk := fun h1 hc => ⟨by simp, by simp⟩
    d1 := fun _ _ => by simp
    k1 := fun u hu' => by
      injection hu' with hu'
      exact hu' ▸ hS.w1 hu fun k e => e ▸ hbn
    k2 := fun u hu => hS.w2 (hS.s2 (h.k2 u hu) hkb) hsz
    rr := fun u hu => by
      obtain ⟨v, e, e1, h1⟩ := h.rr u hu
      exact ⟨v, e, e1, hS.weak (hS.keep h1 hkb) hsz⟩
    zz := fun u hu => by
      obtain ⟨b, e, h3, h4, h5⟩ := h.zz u hu
      exact ⟨b, e, h3, Nat.lt_of_lt_of_le h4 hg.size, fun hs => (hg.block b h4 fun e2 => by injection e2 with e2; exact h1.2.2 b (by rw [hu, e]) e2.symm).trans (h5 hs)⟩
    ss := fun u hu => by cases hu }
theorem CbS.vers (hS : Stays R Bx K1 K2) (h : CbS hk C0 E0 R Z Bx K1 K2 W o0 o1 none c m x y z s w) {u : Value} (hb : Below w.heap.size w w') (hu : K2 (fun g => w.heap.size ≤ g ∧ g < w'.heap.size) w' u) : CbS hk C0 E0 R Z Bx K1 K2 W o0 o1 (some u) c m x y z s w' :=
  { h.more hS hb with k2 := fun u' e => by injection e with e; exact e ▸ hS.w2 hu fun g hg => h.newOwn hg }
theorem CbS.call (hS : Stays R Bx K1 K2) (h : CbS hk C0 E0 R Z Bx K1 K2 W o0 o1 o2 none m x y z s w) (hd : hk = true → o1 ≠ none) {v e : Value} (hb : Below w.heap.size w w') (hr : R (fun g => w.heap.size ≤ g ∧ g < w'.heap.size) w' v e) : CbS hk C0 E0 R Z Bx K1 K2 W o0 o1 o2 (some (.tuple #[v, e])) m x y z s w' := by
  have h2 := h.more hS hb
  have hm : m = none := by
    cases hm : m with
    | none => rfl
    | some u => have := h.mv u hm; cases this
  exact { h2 with
    rr := fun u hu => by
      injection hu with hu
      exact ⟨v, e, hu.symm, hS.weak hr fun g hg => h.newOwn hg⟩
    mv := fun u hu => by rw [hm] at hu; cases hu
    sc := fun _ => by simp
    dk := fun h1 _ => ⟨h.d1 h1 (hd h1), hd h1⟩ }
theorem CbS.move {u : Value} (h : CbS hk C0 E0 R Z Bx K1 K2 W o0 o1 o2 (some u) none x y z s w) : CbS hk C0 E0 R Z Bx K1 K2 W o0 o1 o2 (some u) (some u) x y z s w :=
  { h with
    mv := fun _ e => e
    mx := fun u' hu => by obtain ⟨e, h2⟩ := h.mx u' hu; cases h2
    my := fun u' hu => by obtain ⟨e, h2⟩ := h.my u' hu; cases h2 }
theorem CbS.nos {u : Value} (h : CbS hk C0 E0 R Z Bx K1 K2 W (some u) none o2 c m x y z s w) (hh : hk = true) : s = none := by
  cases s with
  | none => rfl
  | some v => exact absurd rfl (h.dk hh (h.sc (by simp))).2
theorem CbS.tup {u : Value} (h : CbS hk C0 E0 R Z Bx K1 K2 W o0 o1 o2 c (some u) x y z s w) : ∃ v e, u = .tuple #[v, e] := by
  obtain ⟨v, e, h1, _⟩ := h.rr u (h.mv u rfl)
  exact ⟨v, e, h1⟩
theorem CbS.ex0 {v e : Value} (h : CbS hk C0 E0 R Z Bx K1 K2 W o0 o1 o2 c (some (.tuple #[v, e])) none y z s w) : CbS hk C0 E0 R Z Bx K1 K2 W o0 o1 o2 c (some (.tuple #[v, e])) (some v) y z s w :=
  { h with
    mx := fun u hu => by injection hu with hu; exact ⟨e, by rw [hu]⟩
    ss := fun u hu => by obtain ⟨b, v', _, e2, _⟩ := h.ss u hu; cases e2 }
theorem CbS.ex1 {v e : Value} (h : CbS hk C0 E0 R Z Bx K1 K2 W o0 o1 o2 c (some (.tuple #[v, e])) x none z s w) : CbS hk C0 E0 R Z Bx K1 K2 W o0 o1 o2 c (some (.tuple #[v, e])) x (some e) z s w :=
  { h with my := fun u hu => by injection hu with hu; exact ⟨v, by rw [hu]⟩ }
theorem CbS.alloc (hS : Stays R Bx K1 K2) (h : CbS hk C0 E0 R Z Bx K1 K2 W o0 o1 o2 c m x y none s w) (hb : Below w.heap.size w w') (hz : w'.heap[w.heap.size]? = some Z) : CbS hk C0 E0 R Z Bx K1 K2 W o0 o1 o2 c m x y (some (.pointer (some ⟨w.heap.size, 0, none⟩))) s w' := by
  have h2 := h.more hS hb
  have hn : ∀ k, newB W none w k → newB W (some (.pointer (some ⟨w.heap.size, 0, none⟩))) w' k := fun k hk => ⟨hk.1, Nat.lt_of_lt_of_le hk.2.1 hb.size, fun b e2 => by
    injection e2 with e2
    injection e2 with e2
    injection e2 with e2
    injection e2 with e2
    have := hk.2.1
    omega⟩
  have hn2 : ∀ k, newC W o0 none w k → newC W o0 (some (.pointer (some ⟨w.heap.size, 0, none⟩))) w' k := fun k hk => ⟨hn k hk.1, hk.2⟩
  exact { h2 with
    k0 := fun u hu => by
      obtain ⟨g, e, h1, h3⟩ := h.k0 u hu
      exact ⟨g, e, hn g h1, fun h4 => (hb.block g h1.2.1).trans (h3 h4)⟩
    k1 := fun u hu => hS.w1 (hS.s1 (h.k1 u hu) fun k hk => hb.block k hk.2.1) hn
    k2 := fun u hu => hS.w2 (hS.s2 (h.k2 u hu) fun k hk => hb.block k hk.1.2.1) hn2
    rr := fun u hu => by
      obtain ⟨v, e, e1, h1⟩ := h.rr u hu
      exact ⟨v, e, e1, hS.weak (hS.keep h1 fun k hk => hb.block k hk.1.2.1) hn2⟩
    zz := fun u hu => by
      injection hu with hu
      exact ⟨_, hu.symm, h.be.size, (Array.getElem?_eq_some_iff.1 hz).1, fun _ => hz⟩
    ss := fun u hu => by obtain ⟨b, v', e1, _, _⟩ := h.ss u hu; cases e1 }
theorem CbS.box {p : Value} (h : CbS hk C0 E0 R Z Bx K1 K2 W o0 o1 o2 c m x y (some p) none w) : ∃ b, p = .pointer (some ⟨b, 0, none⟩) ∧ w.heap[b]? = some Z := by
  obtain ⟨b, e, _, _, h3⟩ := h.zz p rfl
  exact ⟨b, e, h3 rfl⟩
theorem CbS.sto (hS : Stays R Bx K1 K2) {v u : Value} {b : Nat} (h : CbS hk C0 E0 R Z Bx K1 K2 W o0 o1 o2 c m (some v) y (some (.pointer (some ⟨b, 0, none⟩))) none w) (hg : w.grownBy w' (some b)) (hx : Bx w' b v) : CbS hk C0 E0 R Z Bx K1 K2 W o0 o1 o2 c m (some v) y (some (.pointer (some ⟨b, 0, none⟩))) (some u) w' := by
  obtain ⟨b', e, hb1, hb2, _⟩ := h.zz _ rfl
  injection e with e
  injection e with e
  injection e with e
  subst e
  obtain ⟨e0, hm⟩ := h.mx v rfl
  have hc := h.mv _ hm
  have hne : c ≠ none := by rw [hc]; simp
  have hbe : Below W.heap.size W w' := h.be.grown hg h.be.size fun k e => by injection e with e; omega
  have hkb : ∀ k, newB W (some (.pointer (some ⟨b, 0, none⟩))) w k → w'.heap[k]? = w.heap[k]? := fun k hk => hg.block k hk.2.1 fun e2 => by injection e2 with e2; exact hk.2.2 _ rfl e2
  have hsz : ∀ k, newB W (some (.pointer (some ⟨b, 0, none⟩))) w k → newB W (some (.pointer (some ⟨b, 0, none⟩))) w' k := fun k hk => ⟨hk.1, Nat.lt_of_lt_of_le hk.2.1 hg.size, hk.2.2⟩
  exact { h with
    be := hbe
    k0 := fun u hu => by
      obtain ⟨g, e, h1, h3⟩ := h.k0 u hu
      exact ⟨g, e, hsz g h1, fun h4 => (hkb g h1).trans (h3 h4)⟩
    k1 := fun u hu => hS.w1 (hS.s1 (h.k1 u hu) hkb) hsz
    k2 := fun u hu => hS.w2 (hS.s2 (h.k2 u hu) fun k hk => hkb k hk.1) fun k hk => ⟨hsz k hk.1, hk.2⟩
    rr := fun u hu => by
      obtain ⟨v, e, e1, h1⟩ := h.rr u hu
      exact ⟨v, e, e1, hS.weak (hS.keep h1 fun k hk => hkb k hk.1) fun k hk => ⟨hsz k hk.1, hk.2⟩⟩
    zz := fun u hu => by
      injection hu with hu
      exact ⟨b, hu.symm, hb1, Nat.lt_of_lt_of_le hb2 hg.size, fun e => by cases e⟩
    sc := fun _ => hne
    ss := fun _ _ => ⟨b, v, rfl, rfl, hx⟩ }
theorem CbS.done (hR : RdP R) {u1 u2 u3 u4 u5 : Value} (h : CbS hk C0 E0 R Z Bx K1 K2 W o0 o1 o2 (some u1) (some u2) (some u3) (some u4) (some u5) s w) (hs : s ≠ none) : ∃ b, u5 = .pointer (some ⟨b, 0, none⟩) ∧ u2 = .tuple #[u3, u4] ∧ u1 = .tuple #[u3, u4] ∧ W.heap.size ≤ b ∧ Bx w b u3 ∧ R (fun g => W.heap.size ≤ g ∧ g < w.heap.size ∧ g ≠ b) w u3 u4 ∧ Below W.heap.size W w := by
  obtain ⟨u, rfl⟩ := Option.ne_none_iff_exists'.1 hs
  obtain ⟨b, v, e1, e2, h1⟩ := h.ss u rfl
  obtain ⟨e, h2⟩ := h.mx u3 rfl
  obtain ⟨e', h3⟩ := h.my u4 rfl
  have h4 := h.mv _ h2
  injection e1 with e1
  injection e2 with e2
  injection h2 with h2
  injection h3 with h3
  subst e1 e2
  rw [h2] at h3
  injection h3 with h3
  injection h3 with h3
  injection h3 with e5 h3
  injection h3 with e6 _
  subst e5 e6 h2
  injection h4 with h4
  subst h4
  obtain ⟨v', e', e7, h5⟩ := h.rr _ rfl
  injection e7 with e7
  injection e7 with e7
  injection e7 with e8 e7
  injection e7 with e9 _
  subst e8 e9
  obtain ⟨b', e, hb1, _, _⟩ := h.zz _ rfl
  injection e with e
  injection e with e
  injection e with e
  subst e
  exact ⟨b, rfl, rfl, rfl, hb1, h1, hR.weak h5 fun k hk => ⟨hk.1.1, hk.1.2.1, hk.1.2.2 _ rfl⟩, h.be⟩
def CbL (C0 : Array Value) (E0 : TypeId) (R : (Nat → Prop) → World → Value → Value → Prop) (Z : Obj) (Bx : World → Nat → Value → Prop) (K1 K2 : (Nat → Prop) → World → Value → Prop) (W : World) : List (Option Value) → World → Prop
  | [c, m, x, y, z, s], w => CbS false C0 E0 R Z Bx K1 K2 W none none none c m x y z s w
  | [o0, o1, o2, c, m, x, y, z, s], w => CbS true C0 E0 R Z Bx K1 K2 W o0 o1 o2 c m x y z s w
  | _, _ => False
def CbK (C0 : Array Value) (E0 : TypeId) (R : (Nat → Prop) → World → Value → Value → Prop) (Z : Obj) (Bx : World → Nat → Value → Prop) (K1 K2 : (Nat → Prop) → World → Value → Prop) (W : World) : List (Option Value) → World → Prop
  | [o1, c, m, x, y, z, s], w => CbS false C0 E0 R Z Bx K1 K2 W none o1 none c m x y z s w
  | [o1, o2, c, m, x, y, z, s], w => CbS false C0 E0 R Z Bx K1 K2 W none o1 o2 c m x y z s w
  | _, _ => False
def CbV (C0 : Array Value) (E0 : TypeId) (R : (Nat → Prop) → World → Value → Value → Prop) (Z : Obj) (Bx : World → Nat → Value → Prop) (K1 K2 : (Nat → Prop) → World → Value → Prop) (W : World) : List (Option Value) → World → Prop
  | [o2, c, m, x, y, z, s], w => CbS false C0 E0 R Z Bx K1 K2 W none none o2 c m x y z s w
  | _, _ => False
theorem CbL.below : ∀ {l : List (Option Value)} {w : World}, CbL C0 E0 R Z Bx K1 K2 W l w → Below W.heap.size W w
  | [_, _, _, _, _, _], _, h => CbS.be h
  | [_, _, _, _, _, _, _, _, _], _, h => CbS.be h
theorem CbL.more (hS : Stays R Bx K1 K2) : ∀ (l : List (Option Value)) (w w' : World), CbL C0 E0 R Z Bx K1 K2 W l w → Below w.heap.size w w' → CbL C0 E0 R Z Bx K1 K2 W l w'
  | [_, _, _, _, _, _], _, _, h, hb => CbS.more hS h hb
  | [_, _, _, _, _, _, _, _, _], _, _, h, hb => CbS.more hS h hb
theorem CbK.below : ∀ {l : List (Option Value)} {w : World}, CbK C0 E0 R Z Bx K1 K2 W l w → Below W.heap.size W w
  | [_, _, _, _, _, _, _], _, h => CbS.be h
  | [_, _, _, _, _, _, _, _], _, h => CbS.be h
theorem CbK.more (hS : Stays R Bx K1 K2) : ∀ (l : List (Option Value)) (w w' : World), CbK C0 E0 R Z Bx K1 K2 W l w → Below w.heap.size w w' → CbK C0 E0 R Z Bx K1 K2 W l w'
  | [_, _, _, _, _, _, _], _, _, h, hb => CbS.more hS h hb
  | [_, _, _, _, _, _, _, _], _, _, h, hb => CbS.more hS h hb
theorem CbV.below : ∀ {l : List (Option Value)} {w : World}, CbV C0 E0 R Z Bx K1 K2 W l w → Below W.heap.size W w
  | [_, _, _, _, _, _, _], _, h => CbS.be h
theorem CbV.more (hS : Stays R Bx K1 K2) : ∀ (l : List (Option Value)) (w w' : World), CbV C0 E0 R Z Bx K1 K2 W l w → Below w.heap.size w w' → CbV C0 E0 R Z Bx K1 K2 W l w'
  | [_, _, _, _, _, _, _], _, _, h, hb => CbS.more hS h hb
end
def NodeR (Q : Nd → Nat → Prop) (S : Nat → Prop) (w : World) (v e : Value) : Prop := ∃ n er, e = .int .i64 (er : Nat) ∧ Q n er ∧ RdN S w v n
def NodeB (w : World) (b : Nat) (v : Value) : Prop := ∃ x y z, v = .agg #[x, y, z] ∧ TriV w b 26 x y z
theorem nodeR (Q : Nd → Nat → Prop) : RdP (NodeR Q) where
  keep := fun ⟨n, er, e, hq, h⟩ hk => ⟨n, er, e, hq, h.keep hk⟩
  weak := fun ⟨n, er, e, hq, h⟩ hk => ⟨n, er, e, hq, h.weak hk⟩
def KeyW (k : List UInt8) (S : Nat → Prop) (w : World) (u : Value) : Prop := ∃ a c, u = .slice a k.length c ∧ RdS S w (.slice a k.length c) k
def VerW (l : List Ver) (S : Nat → Prop) (w : World) (u : Value) : Prop := ∃ a c, u = .slice a l.length c ∧ RdL Elt.ver S w (.slice a l.length c) l
theorem stays (Q : Nd → Nat → Prop) (k : List UInt8) (l : List Ver) : Stays (NodeR Q) NodeB (KeyW k) (VerW l) where
  toRdP := nodeR Q
  bx := fun ⟨x, y, z, e, h⟩ hb => ⟨x, y, z, e, h.below hb h.lt⟩
  s1 := fun ⟨a, c, e, h⟩ hb => ⟨a, c, e, h.keep hb⟩
  w1 := fun ⟨a, c, e, h⟩ hb => ⟨a, c, e, h.weak hb⟩
  s2 := fun ⟨a, c, e, h⟩ hb => ⟨a, c, e, h.keep hb⟩
  w2 := fun ⟨a, c, e, h⟩ hb => ⟨a, c, e, h.weak hb⟩
theorem CbS.err {hk : Bool} {C0 : Array Value} {E0 : TypeId} {Q : Nd → Nat → Prop} {Z : Obj} {Bx : World → Nat → Value → Prop} {K1 K2 : (Nat → Prop) → World → Value → Prop} {W w : World} {o0 o1 o2 c m x z s : Option Value} {u : Value} {e0 : Nat}
    (h : CbS hk C0 E0 (NodeR Q) Z Bx K1 K2 W o0 o1 o2 c m x (some u) z s w) (hq : ∀ n er, Q n er → er = e0) : u = .int .i64 (e0 : Nat) := by
  obtain ⟨v, e1⟩ := h.my u rfl
  obtain ⟨v', e', e2, n, er, e3, hQ, _⟩ := h.rr _ (h.mv _ e1)
  injection e2 with e2
  injection e2 with e2
  injection e2 with _ e2
  injection e2 with e2 _
  rw [e2, e3, hq n er hQ]
section
variable {P : Program} {T E S : TypeId} {o : Oper} {a : Act} {K : Act → World → Prop} {Q : Exit → Act → World → Prop} {w : World}
theorem wp_litX (hP : ByP P T E S) {n : Nat} {parts : Array (Nat × Operand)} (ho : o.op = .buildSlice T n parts) (xs : List UInt8) (hn : n = xs.length) (hv : litB parts.toList xs 0 = true) (hs : xs.length ≤ 16777216)
    (h : K (a.put o.dst (.slice (some ⟨w.heap.size, 0, none⟩) xs.length xs.length)) (w.alloc (.cells (bv xs).toArray E))) : o.wp P a w K Q := by
  subst hn
  have hrun := run_build hP w xs hs
  have hq : (parts.map fun p => (p.1, a.eval p.2)) = ((bv xs).zipIdx.map fun p => (p.2, p.1)).toArray := by
    rw [← litB_eq a parts.toList xs 0 hv]
    apply Array.ext'
    simp
  unfold Oper.wp execOp
  simp only [ho, hq, Sem.run_bind, Sem.run_pure, Result.andThen_ok, hrun]
  exact h
theorem wp_convX (hP : ByP P T E S) {x : Operand} (ho : o.op = .convert T T x) {g n c : Nat} (hx : a.eval x = .slice (some ⟨g, 0, none⟩) n c) {C : Array Value} (hg : w.heap[g]? = some (.cells C E (0, 0)))
    (h : ∀ w', w.grownBy w' (some g) → w'.heap[g]? = some (.cells C E (C.size, C.size + 1)) → K (a.put o.dst (.slice (some ⟨g, 0, none⟩) n c)) w') : o.wp P a w K Q := by
  have hsh : w.shape? g = some (E, C.size) := by unfold World.shape?; rw [hg]
  have hrun : (convert T T (.slice (some ⟨g, 0, none⟩) n c)).run P w = .ok (.slice (some ⟨g, 0, none⟩) n c) (w.freeze ⟨g, C.size, none⟩ 1) := by
    simp [convert, run_underlying hP.hT, run_underlying hP.hE, markStringish, hsh]
  have hlt := (Array.getElem?_eq_some_iff.1 hg).1
  have hG : w.grownBy (w.freeze ⟨g, C.size, none⟩ 1) (some g) := by
    unfold World.freeze
    rw [if_neg (by decide)]
    exact ⟨rfl, rfl, rfl, by simp, fun k _ hk => by
      have hkg : g ≠ k := fun e => hk (by rw [e])
      simp [Array.getElem?_modify, hkg]⟩
  have hH : (w.freeze ⟨g, C.size, none⟩ 1).heap[g]? = some (.cells C E (C.size, C.size + 1)) := by
    unfold World.freeze
    rw [if_neg (by decide)]
    simp [Array.getElem?_modify, hg]
  unfold Oper.wp execOp
  simp only [ho, hx, Sem.run_bind, Sem.run_pure, Result.andThen_ok, hrun]
  exact h _ hG hH
end
theorem rdS_of_row {w : World} {g : Nat} {k : List UInt8} {E : TypeId} {fr : Nat × Nat} (h : w.heap[g]? = some (.cells (bv k).toArray E fr)) (hl : k.length ≤ 1000000) : RdS (· = g) w (.slice (some ⟨g, 0, none⟩) k.length k.length) k :=
  .inr ⟨g, 0, k.length, rfl, rfl, Nat.le_refl _, by unfold maxLen; omega, fun j u hj => by
    rw [Nat.zero_add, World.cell?, h]
    simpa using hj⟩
end Go.Proofs.Ytdegjkfjaklkjaa
namespace Go.Proofs.Ytdegjkfjaklkjaa
open Go.RowKit
structure HasP (n : Nd) (l : List Pr) : Prop where
  ok : okN n
  pr : pairsN n = l
theorem HasP.prN {n : Nd} {l : List Pr} (h : HasP n l) : prN n = l := by unfold Go.Proofs.Ytdegjkfjaklkjaa.prN; rw [if_pos h.ok, h.pr]
theorem HasP.fit {n : Nd} {l : List Pr} (h : HasP n l) (hf : fewP l) : fitN n := ok_fit h.ok (by rw [h.pr]; exact hf)
theorem hasE : HasP noNd [] where
  ok := ⟨by decide, fun i h => by cases h⟩
  pr := rfl
theorem rdE (S : Nat → Prop) (w : World) : RdN S w (.agg #[.slice none 0 0, .slice none 0 0, .slice none 0 0]) noNd := ⟨none, 0, none, 0, none, 0, rfl, RdL.nil _ _ _, RdL.nil _ _ _, RdL.nil _ _ _⟩
theorem oneV_ok {s : Int} (h1 : 1 ≤ s) (h2 : s < 2147483648) : okV (oneV s) := by
  intro r hr
  obtain rfl : r = 0 := by simp [oneV] at hr; omega
  refine ⟨⟨h1, h2, by simp [oneV], fun _ => rfl⟩, fun h => absurd h (Nat.lt_irrefl _)⟩
theorem oneV_ne (s : Int) : oneV s ≠ [] := by simp [oneV]
theorem HasP.put {n m : Nd} {l : List Pr} {k : List UInt8} {c : List Ver} {er : Nat} (h : HasP n l) (hp : PutIs n k c m er) (hk : k.length ≤ 16) (hc : okV c) (h0 : c ≠ []) : er = 0 ∧ HasP m (putP l k c) := by
  unfold PutIs at hp
  rw [if_pos ⟨h.ok, hk, hc, h0⟩, h.pr] at hp
  exact ⟨hp.1, hp.2.1, hp.2.2⟩
theorem HasP.del {n m : Nd} {l : List Pr} {k : List UInt8} {er : Nat} (h : HasP n l) (hp : DelIs n k m er) (hf : (findP l k).isSome = true) : er = 0 ∧ HasP m (delP l k) := by
  unfold DelIs at hp
  rw [if_pos h.ok, h.pr, if_pos hf] at hp
  exact ⟨hp.1, hp.2.1, hp.2.2⟩
theorem HasP.few {n : Nd} {l : List Pr} (h : HasP n l) (hf : fewP l) : fitN n := h.fit hf
theorem fewE : fewP [] := ⟨by simp, fun p hp => by cases hp⟩
theorem few_one {l : List Pr} (h1 : l.length ≤ 2000) (h2 : ∀ p ∈ l, ∃ s, p.chain = oneV s) : fewP l := ⟨h1, fun p hp => by obtain ⟨s, e⟩ := h2 p hp; rw [e]; exact oneV_small s⟩
theorem HasP.dep1 {n : Nd} {l : List Pr} (h : HasP n l) (hl : l.length = 1) : depN n = 1 := by
  have h0 := h.ok.1
  obtain ⟨d, hd⟩ : ∃ d : Nat, formI n true = (d : Int) := ⟨(formI n true).toNat, by omega⟩
  obtain ⟨h1, _, h2⟩ := pairs_bounds d hd
  rw [h.pr, hl] at h2
  unfold depN
  rw [if_pos h.ok, hd]
  rcases h2 with h2 | ⟨_, rfl, _⟩
  · rcases Nat.lt_or_ge d 2 with h3 | h3
    · omega
    · have := Nat.pow_le_pow_right (n := 2) (by omega) h3
      omega
  · rfl
theorem wp_makeN {o : Oper} {a : Act} {K : Act → World → Prop} {Q : Exit → Act → World → Prop} {w : World} {P : Program} {T E S : TypeId} (hP : ByP P T E S) {x y : Operand} (ho : o.op = .makeSlice T x y) {k : Nat} {kl kc : IntKind} (hx : a.eval x = .int kl (k : Int)) (hy : a.eval y = .int kc (k : Int))
    (h : ∀ g w', Fresh E w w' (.slice (some ⟨g, 0, none⟩) k k) (List.replicate k 0) → K (a.put o.dst (.slice (some ⟨g, 0, none⟩) k k)) w') (hk : k ≤ 1073741824) : o.wp P a w K Q := by
  obtain ⟨i, hi, hz, hsz, hby⟩ := hP.info
  obtain ⟨w', hrun, h2, h3⟩ := run_make_full (P := P) w w.heap.size T E i (.int .u8 0) 1 hP.hT hi hz hsz kl kc k (by rw [hby]; omega) (by unfold maxLen; omega) (Nat.le_refl _)
  unfold Oper.wp execOp
  simp only [ho, hx, hy, Sem.run_bind, Sem.run_pure, Result.andThen_ok, hrun]
  refine h _ _ ⟨(Below.refl _ w).grown h3 (Nat.le_refl _) (fun k hk => by cases hk), k, ?_⟩
  have e : (madeCells (Value.cells (.int .u8 0)) (k * 1)).toList = bv (List.replicate k 0) := by
    rw [bv_replicate]
    show (madeCells #[.int .u8 0] (k * 1)).toList = _
    rw [toList_madeCells_one, Nat.mul_one]
  rw [← e]
  exact h2
set_option maxRecDepth 100000 in
set_option maxHeartbeats 4000000 in
theorem awake6_any (hC : TreC0) (w : World) : Calls Try.prog 12 #[] w fun e w' => e = .returned (.bool true) ∧ Below w.heap.size w w' := by
  go_enter Try.func12, Try.ntmps12
  try dsimp only [List.append]
  have q := Below.refl w.heap.size w
  go_wp2_with (first | (refine wpList_const byP rfl (fun _ => rfl) rfl rfl (by simp) rfl [98] ?hv rfl (by simp) ?_; (case hv => simp [bv, Act.eval]); intro u1 g1 k1 w1 hb1 hr1) | fail)
  refine (one_any _ ⟨by decide, by decide⟩).mono ?_
  rintro e w2 ⟨a2, c2, rfl, hv2, hb2⟩
  go_wp2_with fail
  refine (hC.put _ (rdE (fun _ => False) _) (hasE.few fewE) (hr1.s.below hb2) (by decide) hv2 (oneV_small 1)).mono ?_
  rintro e w3 ⟨v3, nA, er, rfl, hA, hrA, hb3⟩
  obtain ⟨rfl, pA⟩ := hasE.put hA (by decide) (oneV_ok (by decide) (by decide)) (oneV_ne 1)
  obtain ⟨xA, cA, yA, dA, zA, eA, rfl, _, _, _⟩ := id hrA
  have q3 := ((q.trans (hb1.mono q.size)).trans (hb2.mono (q.trans (hb1.mono q.size)).size))
  have q4 := q3.trans (hb3.mono q3.size)
  clear hr1 hv2 hb1 hb2 hb3 hA q q3
  go_upto_region 2 with (first
    | (refine wpList_allocT rfl rfl ?_; intro w4 hb4 ht4)
    | (refine wpList_storeT rfl rfl rfl rfl rfl rfl rfl rfl ht4 ?_; intro w5 hg5 tA)
    | fail)
  have rA : RdN (fun _ => True) w5 (.agg #[.slice xA nA.keys.length cA, .slice yA nA.chains.length dA, .slice zA nA.kids.length eA]) nA := (hrA.keep fun k hk => (hg5.block k (Nat.lt_of_lt_of_le hk.2 hb4.size) (fun e => by injection e with e; omega)).trans (hb4.block k hk.2)).weak fun _ _ => trivial
  have q5 : Below w.heap.size w w5 := (q4.trans (hb4.mono q4.size)).grown hg5 (Nat.le_trans q4.size hb4.size) fun k e => by injection e with e; have := q4.size; omega
  have fA : fitN nA := pA.few (few_one (by decide) fun p hp => by simp [putP, putGo] at hp; subst hp; exact ⟨1, rfl⟩)
  obtain ⟨bA, hbA⟩ : ∃ bA, bA = w3.heap.size := ⟨_, rfl⟩
  rw [← hbA] at tA ⊢
  clear hrA hg5 hb4 ht4 hbA q4
  have eO : ∀ args w, (callFunc 34 args).run Try.prog w = .ok (.enter 34 args) w := enters_of Try.func34 (by kernel_rfl) rfl
  have eP : ∀ args w, (callFunc 28 args).run Try.prog w = .ok (.enter 28 args) w := enters_of Try.func28 (by kernel_rfl) rfl
  refine wp_region_setl (K := fun _ _ => True) (by kernel_rfl) (by kernel_rfl) [1, 2, 3, 4, 5, 6, 7, 8, 9] (by kernel_rfl) [lEq (.agg #[.slice xA nA.keys.length cA, .slice yA nA.chains.length dA, .slice zA nA.kids.length eA]), lAny, lAny, lAny, lAny, lAny, lAny, lAny, lAny, lAny, lEq (.int .i64 (0 : Nat))]
    (CbL (bv (([97] : List UInt8))).toArray 5 (NodeR (PutIs nA [97] (oneV 2))) zNode NodeB (KeyW (([97] : List UInt8))) (VerW (oneV 2)) w5) (CbL.more (stays (PutIs nA [97] (oneV 2)) (([97] : List UInt8)) (oneV 2))) (CbS.start _)
    ⟨?o0, ?o1, ?o2, ?o3, ?o4, ?o5, ?o6, ?o7, ?o8, ?o9, ?o10, trivial⟩ ?fin
  case o0 =>
    refine StOp.free rfl (by kernel_rfl) (fun A va D w' hF hT hN hE hd hu hg => ?_)
    have e1 : A.eval (.tmp 1) = .pointer (some ⟨bA, 0, none⟩) := hF 1 rfl
    exact wp_load3 ndS rfl (e1) (((tA.below (CbL.below hE) tA.lt)).cell0) (((tA.below (CbL.below hE) tA.lt)).cell1) (((tA.below (CbL.below hE) tA.lt)).cell2) ⟨_, rfl, rfl, Below.refl _ _⟩
  case o1 =>
    refine StOp.set rfl (by kernel_rfl) (fun A va D w' hF hT hN hE hd hu hg => ?_)
    have hE2 := hE
    simp only [told, List.map_cons, List.map_nil, hN, Bool.false_eq_true, if_false] at hE2
    refine wp_litX byP rfl (([97] : List UInt8)) rfl rfl (by decide) ?_
    have h5 := CbS.key0 (stays (PutIs nA [97] (oneV 2)) (([97] : List UInt8)) (oneV 2)) hE2 rfl ((Below.refl _ _).alloc (Nat.le_refl _) (.cells (bv (([97] : List UInt8))).toArray 5)) (by simp only [World.alloc, Array.getElem?_push_size])
    exact ⟨_, rfl, by simpa [CbL, told, don, upd, bv_length] using h5, trivial⟩
  case o2 =>
    refine StOp.set rfl (by kernel_rfl) (fun A va D w' hF hT hN hE hd hu hg => ?_)
    have x1 : A.eval (.tmp 30) = va 1 := hT 30 1 (by simp) rfl
    have hE2 := hE
    have d1 : D 1 = true := hd ⟨1, .data⟩ (by simp) rfl
    simp only [told, List.map_cons, List.map_nil, hN, d1, Bool.false_eq_true, if_false, if_true] at hE2
    obtain ⟨g, eg, _, hg0⟩ := hE2.k0 _ rfl
    have ds : (if D 9 = true then some (va 9) else none) = none := CbS.nos hE2 rfl
    rw [ds] at hE2
    rw [eg] at hE2
    refine wp_convX byP rfl (x1.trans eg) (hg0 rfl) (fun w2 hgr hg2 => ⟨_, rfl, ?_, trivial⟩)
    have h5 := CbS.conv (stays (PutIs nA [97] (oneV 2)) (([97] : List UInt8)) (oneV 2)) hE2 hgr ⟨some ⟨g, 0, none⟩, (([97] : List UInt8)).length, rfl, rdS_of_row hg2 (by decide)⟩
    simpa [CbL, told, don, upd, bv_length, d1, eg, ds] using h5
  case o3 =>
    refine StOp.set rfl (by kernel_rfl) (fun A va D w' hF hT hN hE hd hu hg => ?_)
    have hE2 := hE
    simp only [told, List.map_cons, List.map_nil, hN, Bool.false_eq_true, if_false] at hE2
    refine wp_callFn rfl eO (args := #[.int .i64 2]) (by simp only [List.map_toArray, List.map_cons, List.map_nil]; rfl) ((one_any w' (s := 2) ⟨by decide, by decide⟩).mono ?_)
    rintro e w2 ⟨a2, c2, rfl, hv2, hb2⟩
    have h5 := CbS.vers (stays (PutIs nA [97] (oneV 2)) (([97] : List UInt8)) (oneV 2)) hE2 hb2 (u := .slice a2 1 c2) ⟨_, _, rfl, hv2⟩
    exact ⟨_, rfl, _, rfl, by simpa [CbL, told, don, upd] using h5, trivial⟩
  case o4 =>
    refine StOp.set rfl (by kernel_rfl) (fun A va D w' hF hT hN hE hd hu hg => ?_)
    have e1 : A.eval (.tmp 29) = .agg #[.slice xA nA.keys.length cA, .slice yA nA.chains.length dA, .slice zA nA.kids.length eA] := (hT 29 0 (by simp) rfl).trans (hg ⟨0, .data⟩ (by simp) rfl rfl)
    have x2 : A.eval (.tmp 31) = va 2 := hT 31 2 (by simp) rfl
    have x3 : A.eval (.tmp 32) = va 3 := hT 32 3 (by simp) rfl
    have hE2 := hE
    have d2 : D 2 = true := hd ⟨2, .data⟩ (by simp) rfl
    have d3 : D 3 = true := hd ⟨3, .data⟩ (by simp) rfl
    simp only [told, List.map_cons, List.map_nil, hN, d2, d3, Bool.false_eq_true, if_false, if_true] at hE2
    have hBE := hE2.be
    obtain ⟨ka, kc, ek, hkr⟩ := hE2.k1 _ rfl
    obtain ⟨va2, vc, ev, hvr⟩ := hE2.k2 _ rfl
    refine wp_callFn rfl eP (args := #[.agg #[.slice xA nA.keys.length cA, .slice yA nA.chains.length dA, .slice zA nA.kids.length eA], .slice ka 1 kc, .slice va2 1 vc]) (by simp only [List.map_toArray, List.map_cons, List.map_nil, e1, x2.trans ek, x3.trans ev]; rfl) ((hC.put w' (rA.below hBE) fA hkr (by decide) hvr (oneV_small 2)).mono ?_)
    rintro e w2 ⟨v, n2, er, rfl, hq, hrd, hb2⟩
    have h5 := CbS.call (stays (PutIs nA [97] (oneV 2)) (([97] : List UInt8)) (oneV 2)) hE2 (by simp) hb2 (v := v) (e := .int .i64 (er : Nat)) ⟨n2, er, rfl, hq, hrd⟩
    exact ⟨_, rfl, _, rfl, by simpa [CbL, told, don, upd, bv_length, d2, d3] using h5, trivial⟩
  case o5 =>
    refine StOp.set rfl (by kernel_rfl) (fun A va D w' hF hT hN hE hd hu hg => ?_)
    have x1 : A.eval (.tmp 33) = va 4 := hT 33 4 (by simp) rfl
    have hE2 := hE
    have d4 : D 4 = true := hd ⟨4, .data⟩ (by simp) rfl
    simp only [told, List.map_cons, List.map_nil, hN, d4, Bool.false_eq_true, if_false, if_true] at hE2
    have h5 := CbS.move hE2
    exact BigFrame.wp_move _ rfl ⟨_, rfl, by rw [x1]; simpa [CbL, told, don, upd, bv_length, d4] using h5, trivial⟩
  case o6 =>
    refine StOp.set rfl (by kernel_rfl) (fun A va D w' hF hT hN hE hd hu hg => ?_)
    have x1 : A.eval (.tmp 28) = va 5 := hT 28 5 (by simp) rfl
    have hE2 := hE
    have d5 : D 5 = true := hd ⟨5, .data⟩ (by simp) rfl
    simp only [told, List.map_cons, List.map_nil, hN, d5, Bool.false_eq_true, if_false, if_true] at hE2
    obtain ⟨v, e, em⟩ := CbS.tup hE2
    rw [em] at hE2
    have h5 := CbS.ex0 hE2
    exact wp_ex rfl (x1.trans em) rfl ⟨_, rfl, by simpa [CbL, told, don, upd, d5, em] using h5, trivial⟩
  case o7 =>
    refine StOp.set rfl (by kernel_rfl) (fun A va D w' hF hT hN hE hd hu hg => ?_)
    have x1 : A.eval (.tmp 28) = va 5 := hT 28 5 (by simp) rfl
    have hE2 := hE
    have d5 : D 5 = true := hd ⟨5, .data⟩ (by simp) rfl
    simp only [told, List.map_cons, List.map_nil, hN, d5, Bool.false_eq_true, if_false, if_true] at hE2
    obtain ⟨v, e, em⟩ := CbS.tup hE2
    rw [em] at hE2
    have h5 := CbS.ex1 hE2
    exact wp_ex rfl (x1.trans em) rfl ⟨_, rfl, by simpa [CbL, told, don, upd, d5, em] using h5, trivial⟩
  case o8 =>
    refine StOp.set rfl (by kernel_rfl) (fun A va D w' hF hT hN hE hd hu hg => ?_)
    have hE2 := hE
    simp only [told, List.map_cons, List.map_nil, hN, Bool.false_eq_true, if_false] at hE2
    refine wp_allocN rfl (fun w2 hb2 hz => ⟨_, rfl, ?_, trivial⟩)
    have h5 := CbS.alloc (stays (PutIs nA [97] (oneV 2)) (([97] : List UInt8)) (oneV 2)) hE2 hb2 hz
    simpa [CbL, told, don, upd, bv_length] using h5
  case o9 =>
    refine StOp.set rfl (by kernel_rfl) (fun A va D w' hF hT hN hE hd hu hg => ?_)
    have x1 : A.eval (.tmp 3) = va 8 := hT 3 8 (by simp) rfl
    have x2 : A.eval (.tmp 34) = va 6 := hT 34 6 (by simp) rfl
    have hE2 := hE
    have d8 : D 8 = true := hd ⟨8, .data⟩ (by simp) rfl
    have d6 : D 6 = true := hd ⟨6, .data⟩ (by simp) rfl
    simp only [told, List.map_cons, List.map_nil, hN, d8, d6, Bool.false_eq_true, if_false, if_true] at hE2
    obtain ⟨b, eb, hb0⟩ := CbS.box hE2
    obtain ⟨e, hm⟩ := hE2.mx _ rfl
    obtain ⟨v, e2, ec, n2, er, _, _, hrd⟩ := hE2.rr _ (hE2.mv _ hm)
    obtain ⟨A1, B1, A2, B2, A3, B3, ev, _⟩ := id hrd
    injection ec with ec
    injection ec with ec
    injection ec with ec _
    rw [← ec] at ev
    refine wp_storeT rfl (x1.trans eb) (x2.trans ev) rfl rfl rfl hb0 (fun w2 hg2 ht2 => ⟨_, rfl, ?_, trivial⟩)
    rw [eb] at hE2
    have h5 := CbS.sto (u := undef) (stays (PutIs nA [97] (oneV 2)) (([97] : List UInt8)) (oneV 2)) hE2 hg2 ⟨_, _, _, ev, ht2⟩
    simpa [CbL, told, don, upd, d8, d6, eb] using h5
  case o10 =>
    refine StOp.free rfl (by kernel_rfl) (fun A va D w' hF hT hN hE hd hu hg => ?_)
    have x1 : A.eval (.tmp 35) = va 7 := hT 35 7 (by simp) rfl
    have hE2 := hE
    have d7 : D 7 = true := hd ⟨7, .data⟩ (by simp) rfl
    simp only [told, List.map_cons, List.map_nil, d7, if_true] at hE2
    have ee := CbS.err hE2 (fun n er hQ => (pA.put hQ (by decide) (oneV_ok (by decide) (by decide)) (oneV_ne 2)).1)
    exact BigFrame.wp_assign _ rfl ⟨_, rfl, x1.trans ee, Below.refl _ _⟩
  case fin =>
    intro vs1 W1 hE hG
    obtain ⟨bM, ez, em, ec, hbM, hBx, hR, hbE⟩ := CbS.done (nodeR _) hE (by simp)
    obtain ⟨nM, er, ee, hQ, hM⟩ := hR
    obtain rfl : er = 0 := (pA.put hQ (by decide) (oneV_ok (by decide) (by decide)) (oneV_ne 2)).1
    obtain ⟨x1, y1, z1, ev, hTM⟩ := hBx
    have g0 : vs1 0 = .agg #[.slice xA nA.keys.length cA, .slice yA nA.chains.length dA, .slice zA nA.kids.length eA] := hG 0 (by decide) rfl
    have g10 : vs1 10 = .int .i64 (0 : Nat) := hG 10 (by decide) rfl
    simp only [putAll, g0, g10, ec, em, ev, ee, ez]
    rw [ev] at hM
    obtain ⟨_, pB⟩ := pA.put hQ (by decide) (oneV_ok (by decide) (by decide)) (oneV_ne 2)
    have eB : putP (putP [] [98] (oneV 1)) [97] (oneV 2) = [⟨[97], oneV 2⟩, ⟨[98], oneV 1⟩] := by decide
    rw [eB] at pB
    have fB : fitN nM := pB.few (few_one (by decide) fun p hp => by simp at hp; rcases hp with rfl | rfl; exact ⟨2, rfl⟩; exact ⟨1, rfl⟩)
    have q := q5.trans (hbE.mono q5.size)
    have rB : RdN (fun _ => True) W1 (.agg #[x1, y1, z1]) nM := hM.weak fun _ _ => trivial
    obtain ⟨A1, B1, A2, B2, A3, B3, e3, _, _, _⟩ := id rB
    injection e3 with e3
    injection e3 with e3
    injection e3 with e4 e3
    injection e3 with e5 e3
    injection e3 with e6 _
    subst e4 e5 e6
    clear hM hQ hbE hE hG ec em ev ee ez g0 rA tA q5 pA fA eB hbM eO eP
    go_simp
    have hTMc0 := hTM.cell0
    have hTMc1 := hTM.cell1
    have hTMc2 := hTM.cell2
    go_wp2_with fail
    refine (hC.keys _ rB fB).mono ?_
    rintro e v1 ⟨ak, ck, rfl, hK, hb⟩
    rw [pB.prN] at hK ⊢
    replace rB := rB.below hb
    replace hTM := hTM.below hb hTM.lt
    replace q := q.trans (hb.mono q.size)
    clear hb hTMc0 hTMc1 hTMc2
    have hTMc0 := hTM.cell0
    have hTMc1 := hTM.cell1
    have hTMc2 := hTM.cell2
    go_wp2_with (first | (refine wpList_const byP rfl (fun _ => rfl) rfl rfl (by simp) rfl [98] ?hv rfl (by simp) ?_; (case hv => simp [bv, Act.eval]); intro u4 g4 k4 w4 hb4 hr4) | fail)
    replace rB := rB.below hb4
    replace hTM := hTM.below hb4 hTM.lt
    replace hK := hK.below hb4
    replace q := q.trans (hb4.mono q.size)
    clear hb4 hTMc0 hTMc1 hTMc2
    have hTMc0 := hTM.cell0
    have hTMc1 := hTM.cell1
    have hTMc2 := hTM.cell2
    refine (hC.find _ rB fB hr4.s (by decide)).mono ?_
    rintro e v2 ⟨af, cf, rfl, hF, hb⟩
    rw [pB.prN, show findP [⟨[97], oneV 2⟩, ⟨[98], oneV 1⟩] [98] = some (oneV 1) from rfl] at hF
    rw [pB.prN, show findP [⟨[97], oneV 2⟩, ⟨[98], oneV 1⟩] [98] = some (oneV 1) from rfl]
    dsimp only
    clear hr4
    replace rB := rB.below hb
    replace hTM := hTM.below hb hTM.lt
    replace hK := hK.below hb
    replace q := q.trans (hb.mono q.size)
    clear hb hTMc0 hTMc1 hTMc2
    have hTMc0 := hTM.cell0
    have hTMc1 := hTM.cell1
    have hTMc2 := hTM.cell2
    go_wp2_with (first | (refine wpList_const byP rfl (fun _ => rfl) rfl rfl (by simp) rfl [97, 97] ?hv rfl (by simp) ?_; (case hv => simp [bv, Act.eval]); intro u5 g5 k5 w5 hb5 hr5) | fail)
    replace rB := rB.below hb5
    replace hTM := hTM.below hb5 hTM.lt
    replace hK := hK.below hb5
    replace hF := hF.below hb5
    replace q := q.trans (hb5.mono q.size)
    clear hb5 hTMc0 hTMc1 hTMc2
    have hTMc0 := hTM.cell0
    have hTMc1 := hTM.cell1
    have hTMc2 := hTM.cell2
    refine (hC.next _ rB fB hr5.s (by decide)).mono ?_
    rintro e v3 ⟨ax, cx, rfl, hX, hb⟩
    rw [pB.prN, show nextP [⟨[97], oneV 2⟩, ⟨[98], oneV 1⟩] [97, 97] = some [98] from rfl] at hX
    rw [pB.prN, show nextP [⟨[97], oneV 2⟩, ⟨[98], oneV 1⟩] [97, 97] = some [98] from rfl]
    dsimp only
    clear hr5
    replace rB := rB.below hb
    replace hTM := hTM.below hb hTM.lt
    replace hK := hK.below hb
    replace hF := hF.below hb
    replace q := q.trans (hb.mono q.size)
    clear hb hTMc0 hTMc1 hTMc2
    have hTMc0 := hTM.cell0
    have hTMc1 := hTM.cell1
    have hTMc2 := hTM.cell2
    go_wp2_with (first | (refine wpList_const byP rfl (fun _ => rfl) rfl rfl (by simp) rfl [99] ?hv rfl (by simp) ?_; (case hv => simp [bv, Act.eval]); intro u6 g6 k6 w6 hb6 hr6) | fail)
    replace rB := rB.below hb6
    replace hTM := hTM.below hb6 hTM.lt
    replace hK := hK.below hb6
    replace hF := hF.below hb6
    replace hX := hX.below hb6
    replace q := q.trans (hb6.mono q.size)
    clear hb6 hTMc0 hTMc1 hTMc2
    have hTMc0 := hTM.cell0
    have hTMc1 := hTM.cell1
    have hTMc2 := hTM.cell2
    refine (hC.next _ rB fB hr6.s (by decide)).mono ?_
    rintro e v4 ⟨ay, cy, rfl, _, hb⟩
    rw [pB.prN, show nextP [⟨[97], oneV 2⟩, ⟨[98], oneV 1⟩] [99] = none from rfl]
    dsimp only
    clear hr6
    replace rB := rB.below hb
    replace hTM := hTM.below hb hTM.lt
    replace hK := hK.below hb
    replace hF := hF.below hb
    replace hX := hX.below hb
    replace q := q.trans (hb.mono q.size)
    clear hb hTMc0 hTMc1 hTMc2
    have hTMc0 := hTM.cell0
    have hTMc1 := hTM.cell1
    have hTMc2 := hTM.cell2
    go_wp2_with (first | (refine wpList_const byP rfl (fun _ => rfl) rfl rfl (by simp) rfl [97] ?hv rfl (by simp) ?_; (case hv => simp [bv, Act.eval]); intro u7 g7 k7 w7 hb7 hr7) | fail)
    replace rB := rB.below hb7
    replace hTM := hTM.below hb7 hTM.lt
    replace hK := hK.below hb7
    replace hF := hF.below hb7
    replace hX := hX.below hb7
    replace q := q.trans (hb7.mono q.size)
    clear hb7 hTMc0 hTMc1 hTMc2
    have hTMc0 := hTM.cell0
    have hTMc1 := hTM.cell1
    have hTMc2 := hTM.cell2
    refine (hC.delete _ rB fB hr7.s (by decide)).mono ?_
    rintro e v5 ⟨v, nD, er, rfl, hD, rD, hb⟩
    obtain ⟨rfl, pD⟩ := pB.del hD rfl
    rw [show delP [⟨[97], oneV 2⟩, ⟨[98], oneV 1⟩] [97] = [⟨[98], oneV 1⟩] from rfl] at pD
    have fD : fitN nD := pD.few (few_one (by decide) fun p hp => by simp at hp; subst hp; exact ⟨1, rfl⟩)
    obtain ⟨xD, cD, yD, dD, zD, eD, rfl, _, _, _⟩ := id rD
    clear hr7 hD
    replace rB := rB.below hb
    replace hTM := hTM.below hb hTM.lt
    replace hK := hK.below hb
    replace hF := hF.below hb
    replace hX := hX.below hb
    replace q := q.trans (hb.mono q.size)
    clear hb hTMc0 hTMc1 hTMc2
    have hTMc0 := hTM.cell0
    have hTMc1 := hTM.cell1
    have hTMc2 := hTM.cell2
    go_upto_region 8 with (first | (refine wpList_allocT rfl rfl ?_; intro wa hba hta) | (refine wpList_storeT rfl rfl rfl rfl rfl rfl rfl rfl hta ?_; intro ws hgs tD) | fail)
    have hbs := hba.grown hgs hba.size fun k e => by injection e with e; omega
    clear hba hgs hta
    replace rD := rD.below hbs
    replace rB := rB.below hbs
    replace hTM := hTM.below hbs hTM.lt
    replace hK := hK.below hbs
    replace hF := hF.below hbs
    replace hX := hX.below hbs
    replace q := q.trans (hbs.mono q.size)
    clear hbs hTMc0 hTMc1 hTMc2
    have hTMc0 := hTM.cell0
    have hTMc1 := hTM.cell1
    have hTMc2 := hTM.cell2
    have tDc0 := tD.cell0
    have tDc1 := tD.cell1
    have tDc2 := tD.cell2
    go_wp2_with (first | (refine wpList_const byP rfl (fun _ => rfl) rfl rfl (by simp) rfl [97] ?hv rfl (by simp) ?_; (case hv => simp [bv, Act.eval]); intro u8 g8 k8 w8 hb8 hr8) | fail)
    replace rB := rB.below hb8
    replace hTM := hTM.below hb8 hTM.lt
    replace hK := hK.below hb8
    replace hF := hF.below hb8
    replace hX := hX.below hb8
    replace rD := rD.below hb8
    replace tD := tD.below hb8 tD.lt
    replace q := q.trans (hb8.mono q.size)
    clear hb8 hTMc0 hTMc1 hTMc2 tDc0 tDc1 tDc2
    have hTMc0 := hTM.cell0
    have hTMc1 := hTM.cell1
    have hTMc2 := hTM.cell2
    have tDc0 := tD.cell0
    have tDc1 := tD.cell1
    have tDc2 := tD.cell2
    refine (hC.delete _ rD fD hr8.s (by decide)).mono ?_
    rintro e v6 ⟨v, nE, er, rfl, hE, rE, hb⟩
    obtain rfl : er = 61 := by
      unfold DelIs at hE
      rw [if_pos pD.ok, pD.pr] at hE
      exact hE.1
    obtain ⟨xE, cE, yE, dE, zE, eE, rfl, _, _, _⟩ := id rE
    clear hr8 hE rE
    replace rB := rB.below hb
    replace hTM := hTM.below hb hTM.lt
    replace hK := hK.below hb
    replace hF := hF.below hb
    replace hX := hX.below hb
    replace rD := rD.below hb
    replace tD := tD.below hb tD.lt
    replace q := q.trans (hb.mono q.size)
    clear hb hTMc0 hTMc1 hTMc2 tDc0 tDc1 tDc2
    have hTMc0 := hTM.cell0
    have hTMc1 := hTM.cell1
    have hTMc2 := hTM.cell2
    have tDc0 := tD.cell0
    have tDc1 := tD.cell1
    have tDc2 := tD.cell2
    go_upto_region 9 with (first | (refine wpList_allocT rfl rfl ?_; intro wa hba hta) | (refine wpList_storeT rfl rfl rfl rfl rfl rfl rfl rfl hta ?_; intro wq hgs tE) | fail)
    have hbs := hba.grown hgs hba.size fun k e => by injection e with e; omega
    clear hba hgs hta
    clear tE
    replace rB := rB.below hbs
    replace hTM := hTM.below hbs hTM.lt
    replace hK := hK.below hbs
    replace hF := hF.below hbs
    replace hX := hX.below hbs
    replace rD := rD.below hbs
    replace tD := tD.below hbs tD.lt
    replace q := q.trans (hbs.mono q.size)
    clear hbs hTMc0 hTMc1 hTMc2 tDc0 tDc1 tDc2
    have hTMc0 := hTM.cell0
    have hTMc1 := hTM.cell1
    have hTMc2 := hTM.cell2
    have tDc0 := tD.cell0
    have tDc1 := tD.cell1
    have tDc2 := tD.cell2
    have eO : ∀ args w, (callFunc 34 args).run Try.prog w = .ok (.enter 34 args) w := enters_of Try.func34 (by kernel_rfl) rfl
    have eP : ∀ args w, (callFunc 28 args).run Try.prog w = .ok (.enter 28 args) w := enters_of Try.func28 (by kernel_rfl) rfl
    have hno : ∀ n er, PutIs nM (List.replicate 17 0) (oneV 1) n er → er = 1 := fun n er h => by
      unfold PutIs at h
      rw [if_neg (fun h2 => absurd h2.2.1 (by decide))] at h
      exact h.1
    refine wp_region_setl (K := fun _ _ => True) (by kernel_rfl) (by kernel_rfl) [1, 2, 3, 4, 5, 6, 7, 8] (by kernel_rfl) [lEq (.agg #[.slice A1 nM.keys.length B1, .slice A2 nM.chains.length B2, .slice A3 nM.kids.length B3]), lAny, lAny, lAny, lAny, lAny, lAny, lAny, lAny, lEq (.int .i64 (1 : Nat))]
      (CbK (bv ((List.replicate 17 0 : List UInt8))).toArray 5 (NodeR (PutIs nM (List.replicate 17 0) (oneV 1))) zNode NodeB (KeyW ((List.replicate 17 0 : List UInt8))) (VerW (oneV 1)) wq) (CbK.more (stays (PutIs nM (List.replicate 17 0) (oneV 1)) ((List.replicate 17 0 : List UInt8)) (oneV 1))) (CbS.start _)
      ⟨?o0, ?o1, ?o2, ?o3, ?o4, ?o5, ?o6, ?o7, ?o8, ?o9, trivial⟩ ?fin
    case o0 =>
      refine StOp.free rfl (by kernel_rfl) (fun A va D w' hF hT hN hE hd hu hg => ?_)
      have e1 : A.eval (.tmp 3) = .pointer (some ⟨bM, 0, none⟩) := hF 3 rfl
      exact wp_load3 ndS rfl (e1) ((hTM.below (CbK.below hE) hTM.lt).cell0) ((hTM.below (CbK.below hE) hTM.lt).cell1) ((hTM.below (CbK.below hE) hTM.lt).cell2) ⟨_, rfl, rfl, Below.refl _ _⟩
    case o1 =>
      refine StOp.set rfl (by kernel_rfl) (fun A va D w' hF hT hN hE hd hu hg => ?_)
      have hE2 := hE
      simp only [told, List.map_cons, List.map_nil, hN, Bool.false_eq_true, if_false] at hE2
      refine wp_makeN byP (k := 17) rfl rfl rfl (fun g w2 hf => ?_) (by decide)
      have h5 := CbS.key (stays (PutIs nM (List.replicate 17 0) (oneV 1)) ((List.replicate 17 0 : List UInt8)) (oneV 1)) hE2 rfl hf.1 (u := .slice (some ⟨g, 0, none⟩) 17 17) ⟨_, _, rfl, hf.2.rdS⟩
      exact ⟨_, rfl, by simpa [CbK, told, don, upd, bv_length] using h5, trivial⟩
    case o2 =>
      refine StOp.set rfl (by kernel_rfl) (fun A va D w' hF hT hN hE hd hu hg => ?_)
      have hE2 := hE
      simp only [told, List.map_cons, List.map_nil, hN, Bool.false_eq_true, if_false] at hE2
      refine wp_callFn rfl eO (args := #[.int .i64 1]) (by simp only [List.map_toArray, List.map_cons, List.map_nil]; rfl) ((one_any w' (s := 1) ⟨by decide, by decide⟩).mono ?_)
      rintro e w2 ⟨a2, c2, rfl, hv2, hb2⟩
      have h5 := CbS.vers (stays (PutIs nM (List.replicate 17 0) (oneV 1)) ((List.replicate 17 0 : List UInt8)) (oneV 1)) hE2 hb2 (u := .slice a2 1 c2) ⟨_, _, rfl, hv2⟩
      exact ⟨_, rfl, _, rfl, by simpa [CbK, told, don, upd] using h5, trivial⟩
    case o3 =>
      refine StOp.set rfl (by kernel_rfl) (fun A va D w' hF hT hN hE hd hu hg => ?_)
      have e1 : A.eval (.tmp 74) = .agg #[.slice A1 nM.keys.length B1, .slice A2 nM.chains.length B2, .slice A3 nM.kids.length B3] := (hT 74 0 (by simp) rfl).trans (hg ⟨0, .data⟩ (by simp) rfl rfl)
      have x2 : A.eval (.tmp 75) = va 1 := hT 75 1 (by simp) rfl
      have x3 : A.eval (.tmp 76) = va 2 := hT 76 2 (by simp) rfl
      have hE2 := hE
      have d1 : D 1 = true := hd ⟨1, .data⟩ (by simp) rfl
      have d2 : D 2 = true := hd ⟨2, .data⟩ (by simp) rfl
      simp only [told, List.map_cons, List.map_nil, hN, d1, d2, Bool.false_eq_true, if_false, if_true] at hE2
      have hBE := hE2.be
      obtain ⟨ka, kc, ek, hkr⟩ := hE2.k1 _ rfl
      obtain ⟨va2, vc, ev, hvr⟩ := hE2.k2 _ rfl
      refine wp_callFn rfl eP (args := #[.agg #[.slice A1 nM.keys.length B1, .slice A2 nM.chains.length B2, .slice A3 nM.kids.length B3], .slice ka 17 kc, .slice va2 1 vc]) (by simp only [List.map_toArray, List.map_cons, List.map_nil, e1, x2.trans ek, x3.trans ev]; rfl) ((hC.put w' (rB.below hBE) fB hkr (by decide) hvr (oneV_small 1)).mono ?_)
      rintro e w2 ⟨v, n2, er, rfl, hq, hrd, hb2⟩
      have h5 := CbS.call (stays (PutIs nM (List.replicate 17 0) (oneV 1)) ((List.replicate 17 0 : List UInt8)) (oneV 1)) hE2 (by simp) hb2 (v := v) (e := .int .i64 (er : Nat)) ⟨n2, er, rfl, hq, hrd⟩
      exact ⟨_, rfl, _, rfl, by simpa [CbK, told, don, upd, bv_length, d1, d2] using h5, trivial⟩
    case o4 =>
      refine StOp.set rfl (by kernel_rfl) (fun A va D w' hF hT hN hE hd hu hg => ?_)
      have x1 : A.eval (.tmp 77) = va 3 := hT 77 3 (by simp) rfl
      have hE2 := hE
      have d3 : D 3 = true := hd ⟨3, .data⟩ (by simp) rfl
      simp only [told, List.map_cons, List.map_nil, hN, d3, Bool.false_eq_true, if_false, if_true] at hE2
      have h5 := CbS.move hE2
      exact BigFrame.wp_move _ rfl ⟨_, rfl, by rw [x1]; simpa [CbK, told, don, upd, bv_length, d3] using h5, trivial⟩
    case o5 =>
      refine StOp.set rfl (by kernel_rfl) (fun A va D w' hF hT hN hE hd hu hg => ?_)
      have x1 : A.eval (.tmp 73) = va 4 := hT 73 4 (by simp) rfl
      have hE2 := hE
      have d4 : D 4 = true := hd ⟨4, .data⟩ (by simp) rfl
      simp only [told, List.map_cons, List.map_nil, hN, d4, Bool.false_eq_true, if_false, if_true] at hE2
      obtain ⟨v, e, em⟩ := CbS.tup hE2
      rw [em] at hE2
      have h5 := CbS.ex0 hE2
      exact wp_ex rfl (x1.trans em) rfl ⟨_, rfl, by simpa [CbK, told, don, upd, d4, em] using h5, trivial⟩
    case o6 =>
      refine StOp.set rfl (by kernel_rfl) (fun A va D w' hF hT hN hE hd hu hg => ?_)
      have x1 : A.eval (.tmp 73) = va 4 := hT 73 4 (by simp) rfl
      have hE2 := hE
      have d4 : D 4 = true := hd ⟨4, .data⟩ (by simp) rfl
      simp only [told, List.map_cons, List.map_nil, hN, d4, Bool.false_eq_true, if_false, if_true] at hE2
      obtain ⟨v, e, em⟩ := CbS.tup hE2
      rw [em] at hE2
      have h5 := CbS.ex1 hE2
      exact wp_ex rfl (x1.trans em) rfl ⟨_, rfl, by simpa [CbK, told, don, upd, d4, em] using h5, trivial⟩
    case o7 =>
      refine StOp.set rfl (by kernel_rfl) (fun A va D w' hF hT hN hE hd hu hg => ?_)
      have hE2 := hE
      simp only [told, List.map_cons, List.map_nil, hN, Bool.false_eq_true, if_false] at hE2
      refine wp_allocN rfl (fun w2 hb2 hz => ⟨_, rfl, ?_, trivial⟩)
      have h5 := CbS.alloc (stays (PutIs nM (List.replicate 17 0) (oneV 1)) ((List.replicate 17 0 : List UInt8)) (oneV 1)) hE2 hb2 hz
      simpa [CbK, told, don, upd, bv_length] using h5
    case o8 =>
      refine StOp.set rfl (by kernel_rfl) (fun A va D w' hF hT hN hE hd hu hg => ?_)
      have x1 : A.eval (.tmp 16) = va 7 := hT 16 7 (by simp) rfl
      have x2 : A.eval (.tmp 78) = va 5 := hT 78 5 (by simp) rfl
      have hE2 := hE
      have d7 : D 7 = true := hd ⟨7, .data⟩ (by simp) rfl
      have d5 : D 5 = true := hd ⟨5, .data⟩ (by simp) rfl
      simp only [told, List.map_cons, List.map_nil, hN, d7, d5, Bool.false_eq_true, if_false, if_true] at hE2
      obtain ⟨b, eb, hb0⟩ := CbS.box hE2
      obtain ⟨e, hm⟩ := hE2.mx _ rfl
      obtain ⟨v, e2, ec, n2, er, _, _, hrd⟩ := hE2.rr _ (hE2.mv _ hm)
      obtain ⟨A1, B1, A2, B2, A3, B3, ev, _⟩ := id hrd
      injection ec with ec
      injection ec with ec
      injection ec with ec _
      rw [← ec] at ev
      refine wp_storeT rfl (x1.trans eb) (x2.trans ev) rfl rfl rfl hb0 (fun w2 hg2 ht2 => ⟨_, rfl, ?_, trivial⟩)
      rw [eb] at hE2
      have h5 := CbS.sto (u := undef) (stays (PutIs nM (List.replicate 17 0) (oneV 1)) ((List.replicate 17 0 : List UInt8)) (oneV 1)) hE2 hg2 ⟨_, _, _, ev, ht2⟩
      simpa [CbK, told, don, upd, d7, d5, eb] using h5
    case o9 =>
      refine StOp.free rfl (by kernel_rfl) (fun A va D w' hF hT hN hE hd hu hg => ?_)
      have x1 : A.eval (.tmp 79) = va 6 := hT 79 6 (by simp) rfl
      have hE2 := hE
      have d6 : D 6 = true := hd ⟨6, .data⟩ (by simp) rfl
      simp only [told, List.map_cons, List.map_nil, d6, if_true] at hE2
      have ee := CbS.err hE2 (fun n er hQ => (hno _ _ hQ))
      exact BigFrame.wp_assign _ rfl ⟨_, rfl, x1.trans ee, Below.refl _ _⟩
    case fin =>
      intro vs2 W2 hE hG
      obtain ⟨bF, ez, em, ec, hbF, hBx, hR, hbE⟩ := CbS.done (nodeR _) hE (by simp)
      obtain ⟨nF, er, ee, hQ, hM⟩ := hR
      obtain rfl : er = 1 := (hno _ _ hQ)
      obtain ⟨x1, y1, z1, ev, hTF⟩ := hBx
      have g0 : vs2 0 = .agg #[.slice A1 nM.keys.length B1, .slice A2 nM.chains.length B2, .slice A3 nM.kids.length B3] := hG 0 (by decide) rfl
      have g9 : vs2 9 = .int .i64 (1 : Nat) := hG 9 (by decide) rfl
      simp only [putAll, g0, g9, ec, em, ev, ee, ez]
      clear hM hQ hE hG ec em ev ee ez hTF hbF hno eO eP g0
      replace rB := rB.below hbE
      replace hTM := hTM.below hbE hTM.lt
      replace hK := hK.below hbE
      replace hF := hF.below hbE
      replace hX := hX.below hbE
      replace rD := rD.below hbE
      replace tD := tD.below hbE tD.lt
      replace q := q.trans (hbE.mono q.size)
      clear hbE hTMc0 hTMc1 hTMc2 tDc0 tDc1 tDc2
      have hTMc0 := hTM.cell0
      have hTMc1 := hTM.cell1
      have hTMc2 := hTM.cell2
      have tDc0 := tD.cell0
      have tDc1 := tD.cell1
      have tDc2 := tD.cell2
      go_simp
      go_wp2_with (first | (refine wpList_const byP rfl (fun _ => rfl) rfl rfl (by simp) rfl [99] ?hv rfl (by simp) ?_; (case hv => simp [bv, Act.eval]); intro u9 g9 k9 w9 hb9 hr9) | fail)
      replace rB := rB.below hb9
      replace hTM := hTM.below hb9 hTM.lt
      replace hK := hK.below hb9
      replace hF := hF.below hb9
      replace hX := hX.below hb9
      replace rD := rD.below hb9
      replace tD := tD.below hb9 tD.lt
      replace q := q.trans (hb9.mono q.size)
      clear hb9 hTMc0 hTMc1 hTMc2 tDc0 tDc1 tDc2
      have hTMc0 := hTM.cell0
      have hTMc1 := hTM.cell1
      have hTMc2 := hTM.cell2
      have tDc0 := tD.cell0
      have tDc1 := tD.cell1
      have tDc2 := tD.cell2
      refine (hC.put _ rB fB hr9.s (by decide) (RdL.nil Elt.ver (fun _ => False) _) (show smallV [] from ⟨by simp, fun _ h => by cases h⟩)).mono ?_
      rintro e v9 ⟨v, nG, er, rfl, hG, rG, hb⟩
      obtain rfl : er = 1 := by
        unfold PutIs at hG
        rw [if_neg (fun h2 => h2.2.2.2 rfl)] at hG
        exact hG.1
      obtain ⟨xG, cG, yG, dG, zG, eG, rfl, _, _, _⟩ := id rG
      clear hr9 hG rG
      replace rB := rB.below hb
      replace hTM := hTM.below hb hTM.lt
      replace hK := hK.below hb
      replace hF := hF.below hb
      replace hX := hX.below hb
      replace rD := rD.below hb
      replace tD := tD.below hb tD.lt
      replace q := q.trans (hb.mono q.size)
      clear hb hTMc0 hTMc1 hTMc2 tDc0 tDc1 tDc2
      have hTMc0 := hTM.cell0
      have hTMc1 := hTM.cell1
      have hTMc2 := hTM.cell2
      have tDc0 := tD.cell0
      have tDc1 := tD.cell1
      have tDc2 := tD.cell2
      go_upto_region 11 with (first | (refine wpList_allocT rfl rfl ?_; intro wa hba hta) | (refine wpList_storeT rfl rfl rfl rfl rfl rfl rfl rfl hta ?_; intro wq hgs tG) | fail)
      have hbs := hba.grown hgs hba.size fun k e => by injection e with e; omega
      clear hba hgs hta
      clear tG
      replace rB := rB.below hbs
      replace hTM := hTM.below hbs hTM.lt
      replace hK := hK.below hbs
      replace hF := hF.below hbs
      replace hX := hX.below hbs
      replace rD := rD.below hbs
      replace tD := tD.below hbs tD.lt
      replace q := q.trans (hbs.mono q.size)
      clear hbs hTMc0 hTMc1 hTMc2 tDc0 tDc1 tDc2
      have hTMc0 := hTM.cell0
      have hTMc1 := hTM.cell1
      have hTMc2 := hTM.cell2
      have tDc0 := tD.cell0
      have tDc1 := tD.cell1
      have tDc2 := tD.cell2
      have hK2 : RdL Elt.bytes _ _ (.slice ak 2 ck) [[97], [98]] := hK
      have hF2 : RdL Elt.ver _ _ (.slice af 1 cf) (oneV 1) := hF
      obtain ⟨bl, ol, L0, M0, rfl, kl0, kr0⟩ := hK2.byt 0 (by decide)
      obtain ⟨bl2, ol2, L1, M1, el, kl1, kr1⟩ := hK2.byt 1 (by decide)
      injection el with el
      injection el with e4 e5
      subst e4 e5
      obtain ⟨bf, of, vs3, rfl, _, ⟨w3v, ev3, _, _⟩, hc3⟩ := hF2.at 0 (by decide)
      subst ev3
      have cf0 := hc3 0 _ rfl
      simp only [oneV, List.getElem_cons_zero, List.getElem_cons_succ, Nat.add_zero, Nat.zero_mul] at kl0 kl1 kr0 kr1 cf0
      have kr0 := kr0.rd
      have kr1 := kr1.rd
      have hX2 := hX.rd
      have hs1 : (strOf [97]).toList = [97] := strOf_toList _
      have hs2 : (strOf [98]).toList = [98] := strOf_toList _
      have hmd : (prN nD).length = 1 := by rw [pD.prN]; rfl
      have hdd := pD.dep1 rfl
      go_wp2_with (first | (refine wpList_conv byP rfl rfl rfl kr0 ?_) | (refine wpList_conv byP rfl rfl rfl kr1 ?_) | (refine wpList_conv byP rfl rfl rfl hX2 ?_) | fail)
      refine (hC.many _ rD fD).mono ?_
      rintro e z1 ⟨rfl, hb⟩
      rw [hmd]
      replace rD := rD.below hb
      replace tD := tD.below hb tD.lt
      replace q := q.trans (hb.mono q.size)
      clear hb tDc0 tDc1 tDc2
      have tDc0 := tD.cell0
      have tDc1 := tD.cell1
      have tDc2 := tD.cell2
      go_wp2_with fail
      refine (hC.depth _ rD fD).mono ?_
      rintro e z2 ⟨rfl, hb⟩
      rw [hdd]
      replace rD := rD.below hb
      replace tD := tD.below hb tD.lt
      replace q := q.trans (hb.mono q.size)
      clear hb tDc0 tDc1 tDc2
      have tDc0 := tD.cell0
      have tDc1 := tD.cell1
      have tDc2 := tD.cell2
      go_wp2_with fail
      refine (hC.check _ rD fD).mono ?_
      rw [decide_eq_true pD.ok]
      rintro e z3 ⟨rfl, hb⟩
      replace rD := rD.below hb
      replace tD := tD.below hb tD.lt
      replace q := q.trans (hb.mono q.size)
      clear hb tDc0 tDc1 tDc2
      have tDc0 := tD.cell0
      have tDc1 := tD.cell1
      have tDc2 := tD.cell2
      go_wp2_with fail
      go_ret
      exact ⟨rfl, q⟩
theorem TreC0.full (h : TreC0) : TreC := ⟨h, fun w => awake6_any h w⟩
end Go.Proofs.Ytdegjkfjaklkjaa
namespace Go.Proofs.Ytdegjkfjaklkjaa
theorem treC : TreC := TreC0.full treC0
end Go.Proofs.Ytdegjkfjaklkjaa
