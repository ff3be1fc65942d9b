/-
  THE WALKS OF THE DOCUMENT's All AND Same (frame). Slices of at most a million bytes.
-/
import Derived.WalkKit
import Derived.WalkSpells
import Derived.WalkLawsBesides
import Derived.Lib.Hide
import Derived.Deep.QuietTactic
import Derived.BigQuiet
import Derived.Deep.Cut
import Derived.Test.YtebilecgmblmfaaProg
import Derived.Test.YtebilecgmblmfaaByte
import Derived.Test.YtebilecgmblmfaaRyo
import Derived.Test.YtebilecgmblmfaaFrmD
import Derived.Test.YtebilecgmblmfaaFrmF
namespace Go.Proofs.Ytebilecgmblmfaa
open Go.RowKit

theorem RdIn.apart {lo hi : Nat} {g : Option Nat} {w : World} {v : Value} {xs : List UInt8} (h : RdIn lo hi w v xs) (hg : ∀ k, g = some k → k < lo) : RdNo g hi w v xs := by
  rcases h with h | ⟨b, off, cap, h1, h2, h3, h4⟩
  · exact .inl h
  · exact .inr ⟨b, off, cap, h1, fun e => by have := hg b e.symm; omega, h3, h4⟩

set_option maxRecDepth 100000 in
set_option maxHeartbeats 1000000 in
theorem refAll_any (w : World) {B : Nat} {ad : Option Addr} {n c : Nat} {xs : List UInt8} (hr : Rd B w (.slice ad n c) xs) (hB : B ≤ w.heap.size) (hx : xs.length ≤ 1000000) :
    Calls Try.prog 35 #[.slice ad n c] w (AllEnd w xs) := by
  obtain ⟨rfl, hnc, hcm⟩ := hr.len
  go_enter Try.func35, Try.ntmps35
  go_wp2
  go_loopw [4, 5] (fun v p wr => ∃ (ps : List (List UInt8)) (k : Nat) (a2 : Option Addr) (c2 : Nat), v = .slice a2 ps.length c2 ∧ p = .int .i64 k ∧ k = (framesB ps).length ∧ k ≤ xs.length ∧ 5 * ps.length ≤ k ∧ textsF xs = ps ++ textsF (xs.drop k) ∧ OwnR 22 w.heap.size wr (.slice a2 ps.length c2) ps ∧ Below w.heap.size w wr)
    (fun _ p _ => xs.length - (intOf p).toNat)
  case atStart => exact ⟨[], 0, none, 0, rfl, rfl, rfl, Nat.zero_le _, by simp, rfl, OwnR.nil _ _ _, Below.refl _ _⟩
  case round =>
    obtain ⟨ps, k, a2, c2, rfl, rfl, hk, hkl, hps, hte, hO, hb⟩ := hrel
    have d1 : decide ((k : Int) ≤ (xs.length : Int)) = true := by simp; omega
    have hrw := hr.below (hb.mono hB)
    have hBw := Nat.le_trans hB hb.size
    have hrr := fun (a' : Option Addr) (k' c' : Nat) (hr' : Rd B wr (.slice a' k' c') (xs.drop k)) => refRead_any wr hr' hBw (by simp; omega)
    unfold RefEnd at hrr
    cases hrd : readF (xs.drop k) with
    | none =>
      have h1 := headF_none hrd
      have h2 := errF_none hrd
      have ht : textsF xs = ps := by rw [hte, textsF_none hrd, List.append_nil]
      rw [h1.1, h1.2, h2] at hrr
      have HT := Lib.hid ht
      have HK := Lib.hid hk
      clear hrd h1 h2 ht hte hk
      go_wp2_with (first
        | (refine wpList_slice byP rfl rfl rfl hrw (run_bounds_l' _ (l := k) rfl hkl) ?_ hkl (Nat.le_refl _); intro ad3 k3 c3 hr3)
        | (go_at_call 41; rw [List.take_of_length_le (by simp)] at hr3; refine (hrr _ _ _ hr3).mono ?_; rintro e w3 ⟨ad4, k4, c4, rfl, hF⟩))
      go_ret2
      exact ⟨a2, c2, by rw [HT.out, HK.out]; rfl, by rw [HT.out]; exact hO.below hF.1, hb.trans (hF.1.mono hb.size)⟩
    | some t =>
      have h1 := headF_some hrd
      have h2 := errF_some hrd
      have hle := readF_len hrd
      have ht := Lib.hid (textsF_some hrd)
      rw [List.length_drop] at hle
      rw [h1.1, h1.2, h2] at hrr
      have HK := Lib.hid hk
      have HE := Lib.hid hte
      clear hrd h1 h2 hte hk
      obtain ⟨z, hz⟩ : ∃ z, z = (frameB t).length := ⟨_, rfl⟩
      rw [← hz] at hrr hle ht
      have HZ := Lib.hid hz
      clear hz
      go_wp2_with (first
        | (refine wpList_slice byP rfl rfl rfl hrw (run_bounds_l' _ (l := k) rfl hkl) ?_ hkl (Nat.le_refl _); intro ad3 k3 c3 hr3)
        | (go_at_call 41; rw [List.take_of_length_le (by simp)] at hr3; refine (hrr _ _ _ hr3).mono ?_; rintro e w3 ⟨ad4, k4, c4, rfl, hF⟩; have hO3 := hO.below hF.1; have hq := hb.trans (hF.1.mono hb.size); have hno := hF.2.rdIn.apart (g := (Value.slice a2 ps.length c2).ownBlock) (fun k hk => (hO.block_lt k hk).2))
        | (refine wpList_appendRow ryP rfl (fun _ => rfl) rfl rfl (by simp) rfl (fun _ => rfl) rfl hO3 hno hq.size ?_ ?hlen; intro u ad5 k5 c5 w5 hO5 hb5; obtain rfl := hO5.len))
      case hlen => omega
      go_roundw
      case rel =>
        refine ⟨ps ++ [t], k + z, ad5, c5, by simp, by go_num, ?_, by omega, by simp; omega, ?_, hO5, hq.trans hb5⟩
        · rw [framesB_append, List.length_append, ← HK.out, HZ.out]; simp [framesB]
        · rw [HE.out, ht.out, List.drop_drop, List.append_assoc]; rfl
      case measure => simp [intOf]; omega

set_option maxRecDepth 100000 in
set_option maxHeartbeats 1000000 in
theorem same_any (w : World) {wa wb : World} {a1 a2 : Option Addr} {n1 c1 n2 c2 : Nat} {xss yss : List (List UInt8)} (ha : RdRows wa (.slice a1 n1 c1) xss) (hba : Below wa.heap.size wa w) (hb : RdRows wb (.slice a2 n2 c2) yss) (hbb : Below wb.heap.size wb w) :
    Calls Try.prog 20 #[.slice a1 n1 c1, .slice a2 n2 c2] w fun e w' => e = .returned (.bool (decide (xss = yss))) ∧ Below w.heap.size w w' := by
  obtain ⟨rfl, h1, h2⟩ := ha.len
  obtain ⟨rfl, h3, h4⟩ := hb.len
  have hlm : xss.length ≤ 9223372036854775807 := by unfold maxLen at h2; omega
  by_cases hl : xss.length = yss.length
  · have d1 : ((xss.length : Int) == (yss.length : Int)) = true := by simp; omega
    go_enter Try.func20, Try.ntmps20
    go_wp2
    go_loopw [5] (fun i wr => ∃ k : Nat, i = .int .i64 k ∧ k ≤ xss.length ∧ xss.take k = yss.take k ∧ Below w.heap.size w wr) (fun i _ => xss.length - (intOf i).toNat)
    case atStart => exact ⟨0, rfl, Nat.zero_le _, rfl, Below.refl _ _⟩
    case round =>
      obtain ⟨k, rfl, hk, hkt, hbr⟩ := hrel
      rcases Nat.lt_or_ge k xss.length with hlt | hge
      · have hlt2 : k < yss.length := by omega
        obtain ⟨b, off, A, L, C, rfl, hbl, hcell, hrd⟩ := ha.at (hba.trans (hbr.mono hba.size)) k hlt
        obtain ⟨b', off', A', L', C', rfl, hbl', hcell', hrd'⟩ := hb.at (hbb.trans (hbr.mono hbb.size)) k hlt2
        have hcv1 : ∀ q, (convert 22 9 (.slice A L C)).run Try.prog (wr.drewN q) = .ok (.string (strOf xss[k])) (wr.drewN q) := fun q => run_conv byP (hrd.drewN q)
        by_cases he : xss[k] = yss[k]
        · have hcv2 : ∀ q, (convert 22 9 (.slice A' L' C')).run Try.prog (wr.drewN q) = .ok (.string (strOf xss[k])) (wr.drewN q) := fun q => by rw [he]; exact run_conv byP (hrd'.drewN q)
          have hkt2 := Lib.hid (show xss.take (k + 1) = yss.take (k + 1) by rw [List.take_succ_eq_append_getElem hlt, List.take_succ_eq_append_getElem hlt2, hkt, he])
          clear he hkt d1
          go_upto_region 6 with (fail)
          go_quiet (fail)
          go_wp2
          go_roundw
          case rel => exact ⟨k + 1, by go_num, by omega, hkt2.out, Below.drewN hbr _⟩
          case measure => simp [intOf]; omega
        · have hcv2 : ∀ q, (convert 22 9 (.slice A' L' C')).run Try.prog (wr.drewN q) = .ok (.string (strOf yss[k])) (wr.drewN q) := fun q => run_conv byP (hrd'.drewN q)
          have hne := strNe he
          have HN := Lib.hid (show decide (xss = yss) = false by simp; intro e; subst e; exact he rfl)
          clear he hkt d1
          go_upto_region 6 with (fail)
          go_quiet (fail)
          go_wp2
          go_ret
          exact ⟨by rw [HN.out]; rfl, Below.drewN hbr _⟩
      · have hall : xss = yss := by
          rw [List.take_of_length_le hge, List.take_of_length_le (by omega)] at hkt
          exact hkt
        have HA := Lib.hid (show decide (xss = yss) = true by simpa using hall)
        clear hkt hall d1
        go_wp2
        go_ret
        exact ⟨by rw [HA.out]; rfl, hbr⟩
  · have d1 : ((xss.length : Int) == (yss.length : Int)) = false := by simp; omega
    have HN := Lib.hid (show decide (xss = yss) = false by simp; intro e; subst e; exact hl rfl)
    clear hl
    go_enter Try.func20, Try.ntmps20
    go_wp2
    go_ret
    exact ⟨by rw [HN.out]; rfl, Below.refl _ _⟩
end Go.Proofs.Ytebilecgmblmfaa
