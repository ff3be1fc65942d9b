/-
  THE WALKS OF octet's Take AND THE DOCUMENT's. Slices of at most a million bytes.
-/
import Derived.WalkKit
import Derived.WalkSpells
import Derived.WalkLawsBesides
import Derived.Lib.Hide
import Derived.Deep.QuietTactic
import Derived.BigQuiet
import Derived.Test.YtebilecgmblmfaaProg
import Derived.Test.YtebilecgmblmfaaNum
import Derived.Test.YtebilecgmblmfaaByte
import Derived.Test.YtebilecgmblmfaaOctB
import Derived.Test.YtebilecgmblmfaaOctC
namespace Go.Proofs.Ytebilecgmblmfaa
open Go.RowKit

/-- What Take hands back: the number, what is behind it, the error. -/
def takeS (b : List UInt8) : Nat × List UInt8 × Nat := match takeN b with | some (n, s) => (n, b.drop s, 0) | none => (0, [], 10)
theorem takeS_of_first (b : List UInt8) : ((firstS b).2 = 0 ∧ takeS b = (0, [], 10)) ∨ (1 ≤ (firstS b).2 ∧ (firstS b).2 ≤ b.length ∧ (firstS b).1 ≤ 2147483647 ∧ takeN b = some (firstS b) ∧ takeS b = ((firstS b).1, b.drop (firstS b).2, 0)) := by
  unfold takeS firstS
  cases h : takeN b with
  | none => exact .inl ⟨rfl, rfl⟩
  | some p =>
    obtain ⟨n, s⟩ := p
    have := takeN_some h
    exact .inr ⟨this.2.2.2.1, this.2.2.2.2.1, this.1, rfl, rfl⟩

/-- The three results of Take, in new memory. -/
def TakeEnd (w : World) (xs : List UInt8) (e : Ending) (w' : World) : Prop :=
  ∃ ad k c, e = .returned (.tuple #[.int .i64 (takeS xs).1, .slice ad k c, .int .i64 (takeS xs).2.2]) ∧ Fresh 5 w w' (.slice ad k c) (takeS xs).2.1

set_option maxHeartbeats 1000000 in
theorem take_any (w : World) {B : Nat} {ad : Option Addr} {n c : Nat} {xs : List UInt8} (hr : Rd B w (.slice ad n c) xs) (hB : B ≤ w.heap.size) (hx : xs.length ≤ 1000000) :
    Calls Try.prog 50 #[.slice ad n c] w (TakeEnd w xs) := by
  obtain rfl : n = xs.length := hr.len.1
  have hf := first_any w hr
  rcases takeS_of_first xs with ⟨h0, ht⟩ | ⟨h1, h2, h3, _, ht⟩
  · generalize firstS xs = p at *
    obtain ⟨p1, p2⟩ := p
    dsimp only at *
    subst h0
    go_enter Try.func50, Try.ntmps50
    go_wp2_with (go_at_call 58; refine hf.mono ?_; rintro e w' ⟨rfl, rfl⟩)
    go_ret3
    exact ⟨_, _, _, by rw [ht]; rfl, by rw [ht]; exact Fresh.nil _ _⟩
  · generalize firstS xs = p at *
    obtain ⟨p1, p2⟩ := p
    dsimp only at *
    have hne : ((p2 : Int) == 0) = false := by simp; omega
    have HT := Lib.hid ht
    clear ht
    go_enter Try.func50, Try.ntmps50
    go_wp2_with (first
      | (go_at_call 58; refine hf.mono ?_; rintro e w' ⟨rfl, rfl⟩)
      | (refine wpList_slice byP rfl rfl rfl hr (run_bounds_l _ (by omega)) ?_ (by omega) (by omega); intro ad' k' c' hr2)
      | (go_at_call 36; refine (clone_any _ hr2 hB (by simp; omega)).mono ?_; rintro e w' ⟨ad2, k2, c2, rfl, hF⟩))
    go_ret3
    have e : (xs.drop p2).take (xs.length - p2) = xs.drop p2 := by exact List.take_of_length_le (by simp)
    rw [e] at hF
    exact ⟨ad2, k2, c2, by rw [HT.out]; rfl, by rw [HT.out]; exact hF⟩

theorem takeN_dec {xs : List UInt8} {n s : Nat} (hd : dec 5 xs = some (n, s)) : takeN xs = if n ≤ 2147483647 ∧ numB n = xs.take s then some (n, s) else none := by simp [takeN, hd]
theorem takeS_yes {xs : List UInt8} {n s : Nat} (hd : dec 5 xs = some (n, s)) (h1 : n ≤ 2147483647) (h2 : numB n = xs.take s) : takeS xs = (n, xs.drop s, 0) := by
  simp [takeS, takeN_dec hd, h1, h2]
theorem takeS_no {xs : List UInt8} {n s : Nat} (hd : dec 5 xs = some (n, s)) (h : ¬ (n ≤ 2147483647 ∧ numB n = xs.take s)) : takeS xs = (0, [], 10) := by
  simp only [takeS, takeN_dec hd, if_neg h]
theorem FirstAt.outS {xs : List UInt8} {s acc : Nat} (h : FirstAt xs s acc) (hs : s = xs.length ∨ s = 5) : takeS xs = (0, [], 10) := by
  have := h.out hs
  rcases takeS_of_first xs with ⟨_, h1⟩ | ⟨h1, _⟩
  · exact h1
  · rw [this] at h1; simp at h1
theorem TakeEnd.no {w : World} {xs : List UInt8} {w' : World} (hb : Below w.heap.size w w') (h : takeS xs = (0, [], 10)) : TakeEnd w xs (.returned (.tuple #[.int .i64 0, .slice none 0 0, .int .i64 10])) w' :=
  ⟨none, 0, 0, by rw [h]; rfl, by rw [h]; exact ⟨hb, Own.nil _ _ _⟩⟩

theorem TakeEnd.yes {w w5 : World} {xs zs : List UInt8} {n base : Nat} {ad : Option Addr} {k c : Nat} (h : takeS xs = (n, zs, 0)) (hb : Below w.heap.size w w5) (hO : Own 5 base w5 (.slice ad k c) zs) (hbase : w.heap.size ≤ base) :
    TakeEnd w xs (.returned (.tuple #[.int .i64 n, .slice ad k c, .int .i64 0])) w5 :=
  ⟨ad, k, c, by rw [h]; rfl, by rw [h]; exact ⟨hb, hO.to hbase⟩⟩

set_option maxRecDepth 100000 in
set_option maxHeartbeats 1000000 in
theorem refTake_any (w : World) {B : Nat} {ad : Option Addr} {n c : Nat} {xs : List UInt8} (hr : Rd B w (.slice ad n c) xs) (hB : B ≤ w.heap.size) (hx : xs.length ≤ 1000000) :
    Calls Try.prog 53 #[.slice ad n c] w (TakeEnd w xs) := by
  obtain rfl : n = xs.length := hr.len.1
  go_enter Try.func53, Try.ntmps53
  go_wp2
  go_loopw [5, 6, 7] (fun nv pv iv wr => ∃ s acc pw : Nat, nv = .int .i64 acc ∧ pv = .int .i64 pw ∧ iv = .int .i64 s ∧ pw = 128 ^ s ∧ FirstAt xs s acc ∧ wr = w) (fun _ _ iv _ => 5 - (intOf iv).toNat)
  case atStart => exact ⟨0, 0, 1, rfl, rfl, rfl, rfl, FirstAt.start xs, rfl⟩
  case round =>
    obtain ⟨s, acc, pw, rfl, rfl, rfl, hpw, hat, rfl⟩ := hrel
    have h5 := hat.1
    have hl := hat.2.1
    by_cases hs : s = xs.length ∨ s = 5
    · have ho := Lib.hid (hat.outS hs)
      clear hat hpw
      rcases hs with hs | hs
      · subst hs
        go_wp2
        go_ret3
        exact TakeEnd.no (Below.refl _ _) ho.out
      · subst hs
        go_wp2
        all_goals
          go_ret3
          exact TakeEnd.no (Below.refl _ _) ho.out
    · have h6 : s < 5 := by omega
      have h7 : s < xs.length := by omega
      have hr0 := hr
      rcases hr with ⟨_, _, hv, _⟩ | ⟨b, off, cap, hv, _, _, _, hcell⟩
      · exfalso; injection hv with _ h; omega
      · cases hv
        have hc := hcell s (.int .u8 (xs[s].toNat : Int)) (by simp [bv, h7])
        have h256 := xs[s].toNat_lt
        have hacc := hat.2.2.1
        obtain ⟨x, hxe⟩ : ∃ x, x = xs[s].toNat := ⟨_, rfl⟩
        have hp : (128 ^ s : Nat) ≤ 128 ^ 4 := Nat.pow_le_pow_right (by omega) (by omega)
        obtain ⟨k, hk⟩ : ∃ k, k = x % 128 * pw := ⟨_, rfl⟩
        have hpw4 : pw ≤ 128 ^ 4 := by omega
        have hp2 : k ≤ 127 * 128 ^ 4 := by rw [hk]; exact Nat.mul_le_mul (by omega) hpw4
        have ha : acc < 128 ^ 4 := Nat.lt_of_lt_of_le hacc hp
        have hw1 : (x : Int) % 128 * (pw : Int) = (k : Int) := by rw [hk]; simp
        have hacc2 : acc + k = acc + x % 128 * 128 ^ s := by rw [hk, hpw]
        rw [← hxe] at hc h256
        have hne : ((s : Int) < (xs.length : Int)) := by omega
        have hne5 : ((s : Int) < 5) := by omega
        have H := Lib.hid hat
        have HA := Lib.hid hacc2
        have HX := Lib.hid hxe
        have HP := Lib.hid hpw
        clear hat hs hcell hacc2 hxe hp hacc hk hpw
        by_cases hge : 128 ≤ x
        · go_wp2
          go_roundw
          case rel => exact ⟨s + 1, acc + k, pw * 128, by go_num, by go_num, by go_num, by rw [HP.out, Nat.pow_succ], by rw [HA.out, HX.out]; exact H.out.next h7 h6 (by rw [← HX.out]; exact hge), by first | rfl | trivial⟩
          case measure => simp [intOf]; omega
        · have hlt : x < 128 := by omega
          clear hge
          have hd : dec 5 xs = some (acc + k, s + 1) := by rw [HA.out, HX.out]; exact H.out.last h7 h6 (by rw [← HX.out]; exact hlt)
          have HD := Lib.hid hd
          clear hd
          by_cases hbig : 2147483647 < acc + k
          · go_wp2_with (go_at_call 44; refine (refNumber_no _ _ _ (by omega)).mono ?_; rintro e w' ⟨rfl, rfl⟩)
            go_quiet (fail)
            go_wp2
            go_ret3
            refine TakeEnd.no (Below.drewN (Below.refl _ _) _) (takeS_no HD.out (by omega))
          · have hr1 : Rd wr.heap.size wr (.slice none 0 0) [] := Rd.nil _ _
            go_wp2_with (go_at_call 44; refine (refNumber_yes (acc + k) (by omega) _ hr1 (Nat.le_refl _) (by simp)).mono ?_; rintro e w' ⟨ad', k', c', rfl, hF⟩)
            have hb := hF.1
            have hrx : Rd B w' (.slice (some ⟨b, off, none⟩) xs.length c) xs := hr0.below (hb.mono hB)
            have hcv1 : ∀ q, (convert 22 9 (.slice ad' k' c')).run Try.prog (w'.drewN q) = .ok (.string (strOf (numB (acc + k)))) (w'.drewN q) := fun q => by
              have := hF.rd
              simp only [List.nil_append] at this
              exact run_conv byP (this.drewN q)
            have hrt := hrx.take (s + 1) (by omega)
            by_cases heq : numB (acc + k) = xs.take (s + 1)
            · rw [← heq] at hrt
              have hcv2 : ∀ q, (convert 22 9 (.slice (some ⟨b, off, none⟩) (s + 1) c)).run Try.prog (w'.drewN q) = .ok (.string (strOf (numB (acc + k)))) (w'.drewN q) := fun q => run_conv byP (hrt.drewN q)
              have HQ := Lib.hid heq
              clear heq
              go_quiet (fail)
              have hrq := hrx.drewN nq
              have hbq := Below.drewN hb nq
              clear hcv1 hcv2 hrt hrx hb hF
              go_wp2_with (first
                | (refine wpList_build byP rfl rfl [] (by kernel_rfl) rfl (by simp) ?_; intro g k3 w3 hF3)
                | (refine wpList_slice byP rfl rfl rfl (hrq.below (hF3.1.mono (Nat.le_trans hB hbq.size))) (run_bounds_l' _ (l := s + 1) (by omega) (by omega)) ?_ (by omega) (by omega); intro ad4 k4 c4 hr4)
                | (at_builtin; refine wpList_append byP rfl rfl rfl hF3.2 rfl hr4 hF3.1.size ?_ ?hlen; intro ad5 k5 c5 w5 hO5 hg5 hb5))
              case hlen => simp; omega
              have e5 : [] ++ (xs.drop (s + 1)).take (xs.length - (s + 1)) = xs.drop (s + 1) := by
                rw [List.nil_append]; exact List.take_of_length_le (by simp)
              rw [e5] at hO5
              have hend := TakeEnd.yes (w := wr) (takeS_yes HD.out (by omega) HQ.out) ((hbq.trans (hF3.1.mono hbq.size)).trans (hb5.mono hbq.size)) hO5 hbq.size
              go_ret3
              simpa using hend
            · have hcv2 : ∀ q, (convert 22 9 (.slice (some ⟨b, off, none⟩) (s + 1) c)).run Try.prog (w'.drewN q) = .ok (.string (strOf (xs.take (s + 1)))) (w'.drewN q) := fun q => run_conv byP (hrt.drewN q)
              have hne := strNe heq
              have HQ := Lib.hid heq
              clear heq
              go_quiet (fail)
              go_wp2
              go_ret3
              exact TakeEnd.no (Below.drewN hb _) (takeS_no HD.out (fun h => HQ.out h.2))
end Go.Proofs.Ytebilecgmblmfaa
