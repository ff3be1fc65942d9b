/-
  THE WALKS OF octet's TakeText AND THE DOCUMENT's. Slices of at most a million bytes.
-/
import Derived.WalkKit
import Derived.WalkSpells
import Derived.WalkLawsBesides
import Derived.Lib.Hide
import Derived.Shelf.Abstract
import Derived.Test.YtebilecgmblmfaaProg
import Derived.Test.YtebilecgmblmfaaNum
import Derived.Test.YtebilecgmblmfaaByte
import Derived.Test.YtebilecgmblmfaaSoft
import Derived.Test.YtebilecgmblmfaaOctB
import Derived.Test.YtebilecgmblmfaaOctC
import Derived.Test.YtebilecgmblmfaaOctD
namespace Go.Proofs.Ytebilecgmblmfaa
open Go.RowKit Go.Shelf

/-- What TakeText hands back: the text, what is behind it, the error. -/
def takeTextS (b : List UInt8) : List UInt8 × List UInt8 × Nat :=
  let (n, rest, e) := takeS b
  if e ≠ 0 ∨ 65535 < n ∨ rest.length < n then ([], [], 10) else (rest.take n, rest.drop n, 0)

/-- The three results of TakeText, in new memory. -/
def TextEnd (w : World) (xs : List UInt8) (e : Ending) (w' : World) : Prop :=
  ∃ ad k c ad2 k2 c2, e = .returned (.tuple #[.slice ad k c, .slice ad2 k2 c2, .int .i64 (takeTextS xs).2.2]) ∧ Fresh 5 w w' (.slice ad k c) (takeTextS xs).1 ∧ Fresh 5 w w' (.slice ad2 k2 c2) (takeTextS xs).2.1
theorem TextEnd.no {w w' : World} {xs : List UInt8} (hb : Below w.heap.size w w') (h : takeTextS xs = ([], [], 10)) : TextEnd w xs (.returned (.tuple #[.slice none 0 0, .slice none 0 0, .int .i64 10])) w' :=
  ⟨none, 0, 0, none, 0, 0, by rw [h]; rfl, by rw [h]; exact ⟨hb, Own.nil _ _ _⟩, by rw [h]; exact ⟨hb, Own.nil _ _ _⟩⟩

theorem takeS_cases (xs : List UInt8) : takeS xs = (0, [], 10) ∨ ∃ n rest, takeS xs = (n, rest, 0) ∧ rest.length ≤ xs.length ∧ n ≤ 2147483647 := by
  rcases takeS_of_first xs with ⟨_, h⟩ | ⟨_, _, h3, _, h⟩
  · exact .inl h
  · exact .inr ⟨_, _, h, by simp, h3⟩

set_option maxHeartbeats 1000000 in
theorem refTakeText_any (w : World) {B : Nat} {ad : Option Addr} {n c : Nat} {xs : List UInt8} (hr : Rd B w (.slice ad n c) xs) (hB : B ≤ w.heap.size) (hx : xs.length ≤ 1000000) :
    Calls Try.prog 47 #[.slice ad n c] w (TextEnd w xs) := by
  have hf := refTake_any w hr hB hx
  rcases takeS_cases xs with ht | ⟨p1, rest, ht, hrl, h3⟩
  · have hno : takeTextS xs = ([], [], 10) := by simp [takeTextS, ht]
    have HN := Lib.hid hno
    unfold TakeEnd at hf
    rw [ht] at hf
    clear hno ht
    go_enter Try.func47, Try.ntmps47
    go_wp2_with (go_at_call 53; refine hf.mono ?_; rintro e w' ⟨ad2, k2, c2, rfl, hF⟩)
    go_ret3
    exact TextEnd.no hF.1 HN.out
  · unfold TakeEnd at hf
    rw [ht] at hf
    by_cases hbig : 65535 < p1
    · have hno : takeTextS xs = ([], [], 10) := by simp [takeTextS, ht, hbig]
      have HN := Lib.hid hno
      clear hno ht
      go_enter Try.func47, Try.ntmps47
      go_wp2_with (go_at_call 53; refine hf.mono ?_; rintro e w' ⟨ad2, k2, c2, rfl, hF⟩)
      go_ret3
      exact TextEnd.no hF.1 HN.out
    · by_cases hlong : rest.length < p1
      · have hno : takeTextS xs = ([], [], 10) := by simp [takeTextS, ht, hlong]
        have HN := Lib.hid hno
        clear hno ht
        go_enter Try.func47, Try.ntmps47
        go_wp2_with (go_at_call 53; refine hf.mono ?_; rintro e w' ⟨ad2, k2, c2, rfl, hF⟩; have hk2 : k2 < p1 := by (rw [hF.len]; exact hlong))
        go_ret3
        exact TextEnd.no hF.1 HN.out
      · have hyes : takeTextS xs = (rest.take p1, rest.drop p1, 0) := by simp [takeTextS, ht, hbig, hlong]
        have HN := Lib.hid hyes
        clear hyes ht
        go_enter Try.func47, Try.ntmps47
        go_wp2_with (go_at_call 53; refine hf.mono ?_; rintro e w1 ⟨ad2, k2, c2, rfl, hF⟩; have hk2 : p1 ≤ k2 := by (rw [hF.len]; omega))
        have hrr := hF.rd
        have hlen2 := hrr.len
        refine wp_region_sg (by kernel_rfl) (by kernel_rfl) [sgZero 5 w1.heap.size, sgEq (.slice ad2 k2 c2), sgEq (.int .i64 p1), sgRd (rest.take p1), sgOwn 5 w1.heap.size (rest.take p1),
          sgZero 5 w1.heap.size, sgEq (.slice ad2 k2 c2), sgEq (.int .i64 p1), sgRd (rest.drop p1), sgOwn 5 w1.heap.size (rest.drop p1), sgOwn 5 w1.heap.size (rest.take p1), sgOwn 5 w1.heap.size (rest.drop p1), sgEq (.int .i64 0)]
          ⟨?o0, ?o1, ?o2, ?o3, ?o4, ?o5, ?o6, ?o7, ?o8, ?o9, ?o10, ?o11, ?o12, trivial⟩ ?fin
        case o0 =>
          intro A vs w' hF1 hT hb hd
          refine wp_build byP rfl [] (by kernel_rfl) rfl (by simp) fun g k w2 h2 => ?_
          obtain rfl : k = 0 := h2.len
          exact ⟨_, rfl, ⟨_, rfl, h2.2.to hb.size⟩, h2.1⟩
        case o1 => exact fun A vs w' hF hT hb hd => BigFrame.wp_move _ rfl ⟨_, rfl, hF 6 rfl, Below.refl _ _⟩
        case o2 => exact fun A vs w' hF hT hb hd => BigFrame.wp_move _ rfl ⟨_, rfl, hF 5 rfl, Below.refl _ _⟩
        case o3 =>
          intro A vs w' hF1 hT hb hd
          have e0 : A.eval (.tmp 27) = .slice ad2 k2 c2 := (hT 27 1 (by simp) rfl).trans (hd _ (Array.mem_of_getElem? (i := 0) rfl) rfl)
          have e1 : A.eval (.tmp 28) = .int .i64 p1 := (hT 28 2 (by simp) rfl).trans (hd _ (Array.mem_of_getElem? (i := 1) rfl) rfl)
          refine wp_slice byP rfl e0 (hrr.below hb) rfl (congrArg some e1) (run_bounds_h' _ (h := p1) rfl (by omega)) (fun ad' k c' h => ⟨_, rfl, ⟨_, _, _, rfl, ?_⟩, Below.refl _ _⟩) (by omega) (by omega)
          exact h.mono hb.size
        case o4 =>
          intro A vs w' hF1 hT hb hd
          obtain ⟨g, e3, hO3⟩ := hd _ (Array.mem_of_getElem? (i := 0) rfl) rfl
          obtain ⟨ad4, k4, c4, e4, hr4⟩ := hd _ (Array.mem_of_getElem? (i := 1) rfl) rfl
          have e0 : A.eval (.tmp 26) = .slice (some g) 0 0 := (hT 26 0 (by simp) rfl).trans e3
          have e1 : A.eval (.tmp 29) = .slice ad4 k4 c4 := (hT 29 3 (by simp) rfl).trans e4
          exact wp_append_zero byP rfl e0 hO3 e1 hr4 hb.size (fun ad5 k5 c5 w5 h5 hb5 => ⟨_, rfl, ⟨_, _, _, rfl, h5⟩, hb5⟩) (by simp; omega)
        case o5 =>
          intro A vs w' hF1 hT hb hd
          refine wp_build byP rfl [] (by kernel_rfl) rfl (by simp) fun g k w2 h2 => ?_
          obtain rfl : k = 0 := h2.len
          exact ⟨_, rfl, ⟨_, rfl, h2.2.to hb.size⟩, h2.1⟩
        case o6 => exact fun A vs w' hF hT hb hd => BigFrame.wp_move _ rfl ⟨_, rfl, hF 6 rfl, Below.refl _ _⟩
        case o7 => exact fun A vs w' hF hT hb hd => BigFrame.wp_move _ rfl ⟨_, rfl, hF 5 rfl, Below.refl _ _⟩
        case o8 =>
          intro A vs w' hF1 hT hb hd
          have e0 : A.eval (.tmp 32) = .slice ad2 k2 c2 := (hT 32 6 (by simp) rfl).trans (hd _ (Array.mem_of_getElem? (i := 0) rfl) rfl)
          have e1 : A.eval (.tmp 33) = .int .i64 p1 := (hT 33 7 (by simp) rfl).trans (hd _ (Array.mem_of_getElem? (i := 1) rfl) rfl)
          refine wp_slice byP rfl e0 (hrr.below hb) (congrArg some e1) rfl (run_bounds_l' _ (l := p1) rfl (by omega)) (fun ad' k c' h => ⟨_, rfl, ⟨_, _, _, rfl, ?_⟩, Below.refl _ _⟩) (by omega) (by omega)
          rw [List.take_of_length_le (by simp; omega)] at h
          exact h.mono hb.size
        case o9 =>
          intro A vs w' hF1 hT hb hd
          obtain ⟨g, e3, hO3⟩ := hd _ (Array.mem_of_getElem? (i := 0) rfl) rfl
          obtain ⟨ad4, k4, c4, e4, hr4⟩ := hd _ (Array.mem_of_getElem? (i := 1) rfl) rfl
          have e0 : A.eval (.tmp 31) = .slice (some g) 0 0 := (hT 31 5 (by simp) rfl).trans e3
          have e1 : A.eval (.tmp 34) = .slice ad4 k4 c4 := (hT 34 8 (by simp) rfl).trans e4
          exact wp_append_zero byP rfl e0 hO3 e1 hr4 hb.size (fun ad5 k5 c5 w5 h5 hb5 => ⟨_, rfl, ⟨_, _, _, rfl, h5⟩, hb5⟩) (by simp; omega)
        case o10 =>
          intro A vs w' hF1 hT hb hd
          obtain ⟨ad3, k3, c3, e3, hO3⟩ := hd _ (Array.mem_of_getElem? (i := 0) rfl) rfl
          exact BigFrame.wp_assign _ rfl ⟨_, rfl, ⟨_, _, _, (hT 30 4 (by simp) rfl).trans e3, hO3⟩, Below.refl _ _⟩
        case o11 =>
          intro A vs w' hF1 hT hb hd
          obtain ⟨ad3, k3, c3, e3, hO3⟩ := hd _ (Array.mem_of_getElem? (i := 0) rfl) rfl
          exact BigFrame.wp_assign _ rfl ⟨_, rfl, ⟨_, _, _, (hT 35 9 (by simp) rfl).trans e3, hO3⟩, Below.refl _ _⟩
        case o12 => exact fun A vs w' hF hT hb hd => BigFrame.wp_assign _ rfl ⟨_, rfl, rfl, Below.refl _ _⟩
        case fin =>
          intro vs w' hb hG
          obtain ⟨ad3, k3, c3, e3, hO3⟩ := hG 10 (by decide)
          obtain ⟨ad4, k4, c4, e4, hO4⟩ := hG 11 (by decide)
          have e5 : vs 12 = .int .i64 0 := hG 12 (by decide)
          simp only [putAll]
          go_wp2
          go_ret3
          unfold TextEnd
          refine ⟨ad3, k3, c3, ad4, k4, c4, ?_, ?_, ?_⟩
          · rw [HN.out]; simp [Act.put, e3, e4, e5]
          · rw [HN.out]; exact ⟨hF.1.trans (hb.mono hF.1.size), hO3.to hF.1.size⟩
          · rw [HN.out]; exact ⟨hF.1.trans (hb.mono hF.1.size), hO4.to hF.1.size⟩
end Go.Proofs.Ytebilecgmblmfaa
