/-
  THE WALK OF small (the laws of wal): what it tells.
-/
import Derived.WalkKit
import Derived.WalkSpells
import Derived.WalkLawsBesides
import Derived.Lib.Hide
import Derived.Deep.Cut
import Derived.Test.YtebilecgmblmfaaProg
import Derived.Test.YtebilecgmblmfaaByte
import Derived.Test.YtebilecgmblmfaaAux
import Derived.Test.YtebilecgmblmfaaMat
import Derived.Test.YtebilecgmblmfaaKept
import Derived.Test.YtebilecgmblmfaaWalM
import Derived.Test.YtebilecgmblmfaaWalR
namespace Go.Proofs.Ytebilecgmblmfaa
open Go.RowKit
/-- What 'small' hands back. -/
def SmallEnd (w : World) (bs : List UInt8) (tss : List (List UInt8)) (e : Ending) (w' : World) : Prop :=
  ∃ r, e = .returned (.bool r) ∧ (r = true → bs.length ≤ 25000 ∧ tss.length ≤ 20 ∧ ∀ t ∈ tss, t.length ≤ 3000) ∧ Below w.heap.size w w'
set_option maxRecDepth 100000 in
set_option maxHeartbeats 1000000 in
theorem small_any (w : World) {B : Nat} {a : Option Addr} {n c : Nat} {bs : List UInt8} {s : Int} (hr : Rd B w (.slice a n c) bs) {w0 : World} {a2 : Option Addr} {n2 c2 : Nat} {tss : List (List UInt8)} (ht : RdRows w0 (.slice a2 n2 c2) tss) (hb0 : Below w0.heap.size w0 w) :
    Calls Try.prog 10 #[.agg #[.slice a n c, .int .i64 s], .slice a2 n2 c2] w (SmallEnd w bs tss) := by
  obtain ⟨rfl, hnc, hcm⟩ := hr.len
  obtain ⟨rfl, hnc2, hcm2⟩ := ht.len
  have hlm : bs.length ≤ 9223372036854775807 := by unfold maxLen at hcm; omega
  have hlm2 : tss.length ≤ 9223372036854775807 := by unfold maxLen at hcm2; omega
  have pl := PairV.new w 24 (.slice a bs.length c) (.int .i64 s)
  have q : Below w.heap.size w (w.alloc (.cells #[.slice a bs.length c, .int .i64 s] 24)) := (Below.refl _ _).alloc (Nat.le_refl _) _
  clear hr
  go_enter Try.func10, Try.ntmps10
  go_upto_region 1 with (fail)
  generalize w.alloc (.cells #[.slice a bs.length c, .int .i64 s] 24) = W at *
  have l0 := pl.cell0
  by_cases h1 : 25000 < bs.length
  · have d : decide ((25000 : Int) < bs.length) = true := by simp; omega
    go_wp2_with fail
    go_ret
    exact ⟨false, rfl, by simp, q⟩
  have d : decide ((25000 : Int) < bs.length) = false := by simp; omega
  by_cases h2 : 20 < tss.length
  · have d2 : decide ((20 : Int) < tss.length) = true := by simp; omega
    go_wp2_with fail
    go_ret
    exact ⟨false, rfl, by simp, q⟩
  have d2 : decide ((20 : Int) < tss.length) = false := by simp; omega
  have h1' : bs.length ≤ 25000 := by omega
  have h2' : tss.length ≤ 20 := by omega
  clear h1 h2
  go_wp2_with fail
  clear d d2
  go_loopw [5] (fun i wr => ∃ k : Nat, i = .int .i64 k ∧ k ≤ tss.length ∧ (∀ r (hr : r < tss.length), r < k → tss[r].length ≤ 3000) ∧ wr = W) (fun i _ => tss.length - (intOf i).toNat)
  case atStart => exact ⟨0, rfl, Nat.zero_le _, fun r _ h => by omega, rfl⟩
  case round =>
    obtain ⟨k, rfl, hkl, hle, rfl⟩ := hrel
    rcases Nat.lt_or_ge k tss.length with hlt | hge
    · obtain ⟨b, off, A, L, C, rfl, hbl, hcell, hrd⟩ := ht.at (hb0.trans (q.mono hb0.size)) k hlt
      obtain rfl : L = tss[k].length := hrd.len.1
      have hLm : tss[k].length ≤ 9223372036854775807 := by have := hrd.len.2; unfold maxLen at this; omega
      by_cases hbig : 3000 < tss[k].length
      · have d3 : decide ((3000 : Int) < tss[k].length) = true := by simp; omega
        go_wp2_with fail
        go_ret
        exact ⟨false, rfl, by simp, q⟩
      · have d3 : decide ((3000 : Int) < tss[k].length) = false := by simp; omega
        have h100 : tss[k].length ≤ 3000 := by omega
        have hle' : ∀ r (hr : r < tss.length), r < k + 1 → tss[r].length ≤ 3000 := fun r hr h => by
          rcases Nat.lt_or_ge r k with h4 | h4
          · exact hle r hr h4
          · obtain rfl : r = k := by omega
            exact h100
        have HLE := Lib.hid hle'
        clear hle hle' hbig
        go_wp2_with fail
        go_roundw
        case rel => exact ⟨k + 1, by go_num, by omega, HLE.out, by first | rfl | trivial⟩
        case measure => simp [intOf]; omega
    · obtain rfl : k = tss.length := by omega
      have HLE := Lib.hid (show ∀ t ∈ tss, t.length ≤ 3000 from fun t h => by obtain ⟨r, hr, rfl⟩ := List.mem_iff_getElem.1 h; exact hle r hr hr)
      clear hle
      go_wp2_with fail
      go_ret
      exact ⟨true, rfl, fun _ => ⟨h1', h2', HLE.out⟩, q⟩
end Go.Proofs.Ytebilecgmblmfaa
