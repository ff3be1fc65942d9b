/-
  THE WALK OF frame's first. Slices of at most a million bytes.
-/
import Derived.WalkKit
import Derived.WalkSpells
import Derived.WalkLawsBesides
import Derived.Lib.Hide
import Derived.Shelf.Abstract
import Derived.Test.YtebilecgmblmfaaProg
import Derived.Test.YtebilecgmblmfaaByte
import Derived.Test.YtebilecgmblmfaaCut
import Derived.Test.YtebilecgmblmfaaAux
import Derived.Test.YtebilecgmblmfaaSoft
import Derived.Test.YtebilecgmblmfaaOps
import Derived.Test.YtebilecgmblmfaaOctF
import Derived.Test.YtebilecgmblmfaaOctA
import Derived.Test.YtebilecgmblmfaaFrmA
namespace Go.Proofs.Ytebilecgmblmfaa
open Go.RowKit Go.Shelf

/-- The text that bytes begin with, and how many bytes its frame has: none, and 0, without one. -/
def headF (b : List UInt8) : List UInt8 := (readF b).getD []
def sizeF (b : List UInt8) : Nat := match readF b with | none => 0 | some ts => (frameB ts).length
theorem headF_none {b : List UInt8} (h : readF b = none) : headF b = [] ∧ sizeF b = 0 := by simp [headF, sizeF, h]
theorem headF_some {b ts : List UInt8} (h : readF b = some ts) : headF b = ts ∧ sizeF b = (frameB ts).length := by simp [headF, sizeF, h]

/-- What first hands back: a part of what it was given. -/
def HeadEnd (a₀ : Option Addr) (B : Nat) (w : World) (xs : List UInt8) (e : Ending) (w' : World) : Prop :=
  ∃ ad k c, e = .returned (.tuple #[.slice ad k c, .int .i64 (sizeF xs : Nat)]) ∧ Rd B w' (.slice ad k c) (headF xs) ∧ Below w.heap.size w w' ∧ (headF xs = [] ∨ ad.map (·.block) = a₀.map (·.block))
theorem HeadEnd.no {a₀ : Option Addr} {B : Nat} {w w' : World} {xs : List UInt8} (h : readF xs = none) (hb : Below w.heap.size w w') : HeadEnd a₀ B w xs (.returned (.tuple #[.slice none 0 0, .int .i64 0])) w' :=
  ⟨none, 0, 0, by rw [(headF_none h).2]; rfl, by rw [(headF_none h).1]; exact Rd.nil _ _, hb, .inl (headF_none h).1⟩

theorem takeS_err (b : List UInt8) : (takeS b).2.2 = 0 ∨ takeS b = (0, [], 10) := by
  rcases takeS_cases b with h | ⟨n, r, h, _⟩
  · exact .inr h
  · exact .inl (by rw [h])

set_option maxRecDepth 100000 in
set_option maxHeartbeats 1000000 in
theorem head_any (w : World) {B : Nat} {ad : Option Addr} {n c : Nat} {xs : List UInt8} (hr : Rd B w (.slice ad n c) xs) (hB : B ≤ w.heap.size) (hx : xs.length ≤ 1000000) :
    Calls Try.prog 46 #[.slice ad n c] w (HeadEnd ad B w xs) := by
  obtain ⟨rfl, hnc, hcm⟩ := hr.len
  obtain ⟨m2, hm2, h22⟩ : ∃ m2, m2 = min xs.length 2 ∧ m2 ≤ 2 := ⟨_, rfl, by omega⟩
  have e2 : xs.take m2 = xs.take 2 := by rw [hm2, Nat.min_comm]; exact List.take_eq_take_min.symm
  have ht := fun (w' : World) (a' : Option Addr) (k' c' : Nat) (hr' : Rd B w' (.slice a' k' c') (xs.take 2)) (hB' : B ≤ w'.heap.size) => take_any w' hr' hB' (by simp; omega)
  have hq := Lib.hid (fun h => readF_head (b := xs) h)
  have hC : ((xs.length : Int) ≤ 2 ∧ min (xs.length : Int) 2 = xs.length ∧ m2 = xs.length) ∨ (¬ (xs.length : Int) ≤ 2 ∧ min (xs.length : Int) 2 = 2 ∧ m2 = 2) := by omega
  rcases takeS_err (xs.take 2) with h0 | h0
  · have hs := takeS_ok h0
    have hq2 := Lib.hid (fun (s n : Nat) (hn : (takeS (xs.take 2)).1 = n) (hs : (numB n).length = s) => readF_short (b := xs) h0 hn hs)
    have hq3 := Lib.hid (fun (s n : Nat) (hn : (takeS (xs.take 2)).1 = n) (hs : (numB n).length = s) => readF_tail (b := xs) h0 hn hs)
    unfold TakeEnd at ht
    obtain ⟨n, hn⟩ : ∃ n, (takeS (xs.take 2)).1 = n := ⟨_, rfl⟩
    rw [h0, hn] at ht
    rw [hn] at hq hs
    replace hq2 := Lib.hid (fun s => hq2.out s n hn)
    replace hq3 := Lib.hid (fun s => hq3.out s n hn)
    have hs1 := hs.1
    clear hn h0 hs
    by_cases hbig : 2000 < n
    · have hno := Lib.hid (hq.out (.inr hbig))
      clear hq hq2 hq3
      have d1 : decide ((2000 : Int) < n) = true := by simp; omega
      rcases hC with ⟨hle, hmi, hm⟩ | ⟨hle, hmi, hm⟩
      all_goals
        go_enter Try.func46, Try.ntmps46
        go_wp2_with (first
          | (refine wpList_slice byP rfl rfl rfl hr (run_bounds_h' _ (h := m2) (by omega) (by omega)) ?_ (by omega) (by omega); intro ad' k' c' hr2)
          | (go_at_call 50; rw [List.drop_zero, Nat.sub_zero, e2] at hr2; refine (ht _ _ _ _ hr2 hB).mono ?_; rintro e w1 ⟨ad1, k1, c1, rfl, hF⟩))
        go_ret2
        exact HeadEnd.no hno.out hF.1
    have d1 : decide ((2000 : Int) < n) = false := by simp; omega
    obtain ⟨s, hs⟩ : ∃ s, (numB n).length = s := ⟨_, rfl⟩
    have hs5 : 1 ≤ s ∧ s ≤ 2 := by have h1 := numB_pos n; have h2 := numB_len2 (n := n) (by omega); omega
    replace hq2 := Lib.hid (hq2.out s hs)
    replace hq3 := Lib.hid (hq3.out s hs (by omega))
    have hz := fun (w' : World) => size_yes n w' hs1 (by omega)
    rw [hs] at hz
    have HS := Lib.hid hs
    clear hs hq
    by_cases hshort : xs.length < s + n + 4
    · have hno := Lib.hid (hq2.out hshort)
      clear hq2 hq3
      have d2 : decide ((xs.length : Int) < (s : Int) + n + 4) = true := by simp; omega
      rcases hC with ⟨hle, hmi, hm⟩ | ⟨hle, hmi, hm⟩
      all_goals
        go_enter Try.func46, Try.ntmps46
        go_wp2_with (first
          | (refine wpList_slice byP rfl rfl rfl hr (run_bounds_h' _ (h := m2) (by omega) (by omega)) ?_ (by omega) (by omega); intro ad' k' c' hr2)
          | (go_at_call 50; rw [List.drop_zero, Nat.sub_zero, e2] at hr2; refine (ht _ _ _ _ hr2 hB).mono ?_; rintro e w1 ⟨ad1, k1, c1, rfl, hF⟩)
          | (go_at_call 51; refine (hz _).mono ?_; rintro e w2 ⟨rfl, hb2⟩))
        go_ret2
        exact HeadEnd.no hno.out (hF.1.trans (hb2.mono hF.1.size))
    have d2 : decide ((xs.length : Int) < (s : Int) + n + 4) = false := by simp; omega
    replace hq3 := Lib.hid (hq3.out (by omega))
    clear hq2
    obtain ⟨hle, hmi, hm⟩ := hC.resolve_left (by omega)
    go_enter Try.func46, Try.ntmps46
    go_wp2_with (first
      | (refine wpList_slice byP rfl rfl rfl hr (run_bounds_h' _ (h := m2) (by omega) (by omega)) ?_ (by omega) (by omega); intro ad' k' c' hr2)
      | (go_at_call 50; rw [List.drop_zero, Nat.sub_zero, e2] at hr2; refine (ht _ _ _ _ hr2 hB).mono ?_; rintro e w1 ⟨ad1, k1, c1, rfl, hF⟩)
      | (go_at_call 51; refine (hz _).mono ?_; rintro e w2 ⟨rfl, hb2⟩)
      | (refine wpList_slice3 byP rfl rfl rfl (hr.below ((hF.1.trans (hb2.mono hF.1.size)).mono hB)) (run_bounds3 _ (l := s) (h := s + n) (m := s + n) (by omega) (by omega) (by omega) (by omega) (by omega) (by omega)) ?_ (by omega) (by omega) (by omega) (by omega); intro ad3 k3 c3 hr3 hb3))
    rw [Nat.add_sub_cancel_left] at hr3
    obtain ⟨t, htt⟩ : ∃ t, t = (xs.drop s).take n := ⟨_, rfl⟩
    rw [← htt] at hr3 hq3
    have hb02 : Below w.heap.size w w2 := hF.1.trans (hb2.mono hF.1.size)
    have hrx := hr.below (hb02.mono hB)
    have hB2 : B ≤ w2.heap.size := Nat.le_trans hB hb02.size
    have et : ∀ args w, (callFunc 43 args).run Try.prog w = .ok (.enter 43 args) w := enters_of Try.func43 (by kernel_rfl) rfl
    have eq : ∀ args w, (callFunc 52 args).run Try.prog w = .ok (.enter 52 args) w := enters_of Try.func52 (by kernel_rfl) rfl
    clear hz hb2 hF d1 d2 ht hle hmi hr
    refine wp_region_sg (by kernel_rfl) (by kernel_rfl) [sgEq (.slice ad xs.length c), sgEq (.int .i64 ((s : Int) + n)), sgEq (.int .i64 ((s : Int) + n + 4)), sgRd ((xs.drop (s + n)).take 4), sgEq (.slice ad3 k3 c3), sgRd (sumB t), sgEq (.bool (decide ((xs.drop (s + n)).take 4 = sumB t))), sgEq (.bool (!decide ((xs.drop (s + n)).take 4 = sumB t)))]
      ⟨?o0, ?o1, ?o2, ?o3, ?o4, ?o5, ?o6, ?o7, trivial⟩ ?fin
    case o0 => exact fun A vs w' hF hT hb hd => BigFrame.wp_move _ rfl ⟨_, rfl, hF 0 rfl, Below.refl _ _⟩
    case o1 => exact fun A vs w' hF hT hb hd => BigFrame.wp_move _ rfl ⟨_, rfl, hF 8 rfl, Below.refl _ _⟩
    case o2 => exact fun A vs w' hF hT hb hd => BigFrame.wp_move _ rfl ⟨_, rfl, hF 9 rfl, Below.refl _ _⟩
    case o3 =>
      intro A vs w' hF hT hb hd
      have e0 : A.eval (.tmp 43) = .slice ad xs.length c := (hT 43 0 (by simp) rfl).trans (hd _ (Array.mem_of_getElem? (i := 0) rfl) rfl)
      have e1 : A.eval (.tmp 44) = .int .i64 ((s : Int) + n) := (hT 44 1 (by simp) rfl).trans (hd _ (Array.mem_of_getElem? (i := 1) rfl) rfl)
      have e2 : A.eval (.tmp 45) = .int .i64 ((s : Int) + n + 4) := (hT 45 2 (by simp) rfl).trans (hd _ (Array.mem_of_getElem? (i := 2) rfl) rfl)
      refine wp_slice byP rfl e0 (hrx.below (hb.mono hB2)) (congrArg some e1) (congrArg some e2) (run_bounds_lh' _ (l := s + n) (h := s + n + 4) (by omega) (by omega) (by omega) (by omega)) (fun ad' k' c' h => ⟨_, rfl, ⟨_, _, _, rfl, ?_⟩, Below.refl _ _⟩) (by omega) (by omega)
      rw [Nat.add_sub_cancel_left] at h
      exact h.mono (Nat.le_trans hB2 hb.size)
    case o4 => exact fun A vs w' hF hT hb hd => BigFrame.wp_move _ rfl ⟨_, rfl, hF 10 rfl, Below.refl _ _⟩
    case o5 =>
      intro A vs w' hF hT hb hd
      have e0 : A.eval (.tmp 47) = .slice ad3 k3 c3 := (hT 47 4 (by simp) rfl).trans (hd _ (Array.mem_of_getElem? (i := 0) rfl) rfl)
      refine wp_callFn rfl et (args := #[.slice ad3 k3 c3]) (by simp [e0]) ((tail_any w' (hr3.below (hb.mono hB2)) (Nat.le_trans hB2 hb.size)).mono ?_)
      rintro e w4 ⟨ad4, k4, c4, rfl, hF4⟩
      exact ⟨_, rfl, _, rfl, ⟨_, _, _, rfl, hF4.rd⟩, hF4.1⟩
    case o6 =>
      intro A vs w' hF hT hb hd
      obtain ⟨ad5, k5, c5, e5, hr5⟩ := hd _ (Array.mem_of_getElem? (i := 0) rfl) rfl
      obtain ⟨ad6, k6, c6, e6, hr6⟩ := hd _ (Array.mem_of_getElem? (i := 1) rfl) rfl
      have e0 : A.eval (.tmp 46) = .slice ad5 k5 c5 := (hT 46 3 (by simp) rfl).trans e5
      have e1 : A.eval (.tmp 48) = .slice ad6 k6 c6 := (hT 48 5 (by simp) rfl).trans e6
      refine wp_callFn rfl eq (args := #[.slice ad5 k5 c5, .slice ad6 k6 c6]) (by simp [e0, e1]) ((equal_any w' hr5 hr6).mono ?_)
      rintro e w4 ⟨rfl, rfl⟩
      exact ⟨_, rfl, _, rfl, rfl, Below.refl _ _⟩
    case o7 =>
      intro A vs w' hF hT hb hd
      have e0 : A.eval (.tmp 49) = .bool (decide ((xs.drop (s + n)).take 4 = sumB t)) := (hT 49 6 (by simp) rfl).trans (hd _ (Array.mem_of_getElem? (i := 0) rfl) rfl)
      exact wp_notB rfl e0 ⟨_, rfl, rfl, Below.refl _ _⟩
    case fin =>
      intro vs w' hb hG
      have e7 : vs 7 = .bool (!decide ((xs.drop (s + n)).take 4 = sumB t)) := hG 7 (by decide)
      have hq := hb02.trans (hb.mono hb02.size)
      have hl : t.length = n := by rw [htt, List.length_take, List.length_drop]; omega
      have hrt := hr3.below (hb.mono hB2)
      clear hG hb hr3 hrx
      by_cases hy : (xs.drop (s + n)).take 4 = sumB t
      · have hyes := hq3.out
        rw [if_pos hy] at hyes
        have hd := headF_some hyes
        have hfl := frameB_len t
        have d7 : (!decide ((xs.drop (s + n)).take 4 = sumB t)) = false := by simp [hy]
        have HL := Lib.hid hl
        have HT := Lib.hid htt
        rw [d7] at e7
        simp only [putAll, e7]
        clear e7 hy d7 hq3 hyes hl htt
        go_simp
        go_wp2
        go_ret2
        have hsz : sizeF xs = s + n + 4 := by rw [hd.2, hfl, HL.out, HS.out]
        refine ⟨ad3, k3, c3, ?_, ?_, hq, .inr hb3⟩
        · rw [hsz]; simp
        · rw [hd.1]; exact hrt
      · have hno := hq3.out
        rw [if_neg hy] at hno
        have d7 : (!decide ((xs.drop (s + n)).take 4 = sumB t)) = true := by simp [hy]
        rw [d7] at e7
        simp only [putAll, e7]
        clear e7 hy d7 hq3
        go_simp
        go_wp2
        go_ret2
        exact HeadEnd.no hno hq
  · unfold TakeEnd at ht
    rw [h0] at ht hq
    have hno := Lib.hid (hq.out (.inl (by simp)))
    clear hq
    rcases hC with ⟨hle, hmi, hm⟩ | ⟨hle, hmi, hm⟩
    all_goals
      go_enter Try.func46, Try.ntmps46
      go_wp2_with (first
        | (refine wpList_slice byP rfl rfl rfl hr (run_bounds_h' _ (h := m2) (by omega) (by omega)) ?_ (by omega) (by omega); intro ad' k' c' hr2)
        | (go_at_call 50; rw [List.drop_zero, Nat.sub_zero, e2] at hr2; refine (ht _ _ _ _ hr2 hB).mono ?_; rintro e w1 ⟨ad1, k1, c1, rfl, hF⟩))
      go_ret2
      exact HeadEnd.no hno.out hF.1
end Go.Proofs.Ytebilecgmblmfaa
