/-
  THE WALKS OF sort.Search (whatever closure that tells whether its number is at least m) AND OF chain's OWN upTo.
-/
import Derived.WalkKit
import Derived.WalkSpells
import Derived.WalkLawsBesides
import Derived.Lib.Hide
import Derived.Deep.Cut
import Derived.Deep.QuietTactic
import Derived.BigQuiet
import Derived.Test.YtemdcpajcaaphaaProg
import Derived.Test.YtemdcpajcaaphaaByte
import Derived.Test.YtemdcpajcaaphaaAux
import Derived.Test.YtemdcpajcaaphaaSoft
import Derived.Test.YtemdcpajcaaphaaVer
import Derived.Test.YtemdcpajcaaphaaVerM
import Derived.Test.YtemdcpajcaaphaaVerN
namespace Go.Proofs.Ytemdcpajcaaphaa
open Go.RowKit
set_option maxRecDepth 100000 in
set_option maxHeartbeats 1000000 in
theorem search_any (w : World) {n : Nat} (F : FuncId) (caps : Array Value) (hE : Enters Try.prog F) (hn : n ≤ 1000000) (m : Nat) (hm : m ≤ n)
    (hF : ∀ (W : World) (i : Nat), i < n → Below w.heap.size w W → Calls Try.prog F (#[.int .i64 i] ++ caps) W fun e W' => e = .returned (.bool (decide (m ≤ i))) ∧ Below w.heap.size W W') :
    Calls Try.prog 30 #[.int .i64 n, .func (.func F) #[] caps] w fun e w' => e = .returned (.int .i64 m) ∧ Below w.heap.size w w' := by
  have q := Below.refl w.heap.size w
  have hEE := hE
  unfold Enters at hEE
  go_enter Try.func30, Try.ntmps30
  go_upto_region 2 with (fail)
  go_loopw [5, 6] (fun iv jv wr => ∃ (i j : Nat), iv = .int .i64 i ∧ jv = .int .i64 j ∧ i ≤ m ∧ m ≤ j ∧ j ≤ n ∧ Below w.heap.size w wr)
    (fun i j _ => (intOf j).toNat - (intOf i).toNat)
  case atStart => exact ⟨0, n, rfl, rfl, Nat.zero_le _, hm, Nat.le_refl _, q⟩
  case round =>
    clear q
    obtain ⟨i, j, rfl, rfl, him, hmj, hjn, q⟩ := hrel
    rcases Nat.lt_or_ge i j with hlt | hge
    · obtain ⟨h, hh⟩ : ∃ h : Nat, h = (i + j) / 2 := ⟨_, rfl⟩
      have e : ((i : Int) + (j : Int)) / 2 = (h : Int) := by omega
      have hih : i ≤ h := by omega
      have hhj : h < j := by omega
      clear hh
      go_wp2_with fail
      clear e
      refine (hF wr h (by omega) q).mono ?_
      rintro e w1 ⟨rfl, hb1⟩
      have q1 := q.trans hb1
      clear q hb1
      rcases Nat.lt_or_ge h m with h1 | h1
      · rw [show decide (m ≤ h) = false from decide_eq_false (by omega)]
        go_wp2_with fail
        go_roundw
        case rel => exact ⟨h + 1, j, by go_num, rfl, by omega, hmj, hjn, q1⟩
        case measure => simp [intOf]; omega
      · rw [show decide (m ≤ h) = true from decide_eq_true h1]
        go_wp2_with fail
        go_roundw
        case rel => exact ⟨i, h, rfl, rfl, him, by omega, by omega, q1⟩
        case measure => simp [intOf]; omega
    · obtain rfl : i = m := by omega
      go_wp2_with fail
      go_ret
      exact ⟨rfl, q⟩

set_option maxRecDepth 100000 in
set_option maxHeartbeats 1000000 in
theorem upTo1_any (w : World) {S : Nat → Prop} {a : Option Addr} {n c : Nat} {l : List Ver} {s : Int} (hl : RdL Elt.ver S w (.slice a n c) l) (b1 b2 i : Nat) (hi : i < l.length)
    (h1 : w.cell? ⟨b1, 0, none⟩ = some (.slice a n c)) (h2 : w.cell? ⟨b2, 0, none⟩ = some (.int .i64 s)) :
    Calls Try.prog 31 #[.int .i64 i, .pointer (some ⟨b1, 0, none⟩), .pointer (some ⟨b2, 0, none⟩)] w fun e w' => e = .returned (.bool (decide (s < l[i].stamp))) ∧ Below w.heap.size w w' := by
  obtain ⟨rfl, hnc, hcm⟩ := hl.len
  have hlm : l.length ≤ 9223372036854775807 := by unfold maxLen at hcm; omega
  obtain ⟨b, off, A, C, rfl, hb, c0, c1, c2, hv, hi2, hn1, hn2⟩ := hl.ver i hi
  go_enter Try.func31, Try.ntmps31
  go_upto_region 1 with (fail)
  go_quiet (fail)
  go_wp2_with fail
  go_ret
  exact ⟨rfl, Below.drewN (Below.refl _ _) _⟩

theorem cell_new1 (w : World) (t : TypeId) (v : Value) : (w.alloc (.cells #[v] t)).cell? ⟨w.heap.size, 0, none⟩ = some v := by
  have h : (w.alloc (.cells #[v] t)).heap[w.heap.size]? = some (.cells #[v] t (0, 0)) := by simp only [World.alloc, Array.getElem?_push_size]
  generalize w.alloc (.cells #[v] t) = W at h ⊢
  simp [World.cell?, h]
/-- Two variables' boxes, laid one behind the other. -/
theorem upBoxes (w : World) (t u : TypeId) (x y : Value) : Below w.heap.size w ((w.alloc (.cells #[x] t)).alloc (.cells #[y] u)) ∧ ((w.alloc (.cells #[x] t)).alloc (.cells #[y] u)).cell? ⟨w.heap.size, 0, none⟩ = some x ∧ ((w.alloc (.cells #[x] t)).alloc (.cells #[y] u)).cell? ⟨w.heap.size + 1, 0, none⟩ = some y := by
  have h1 : Below w.heap.size w (w.alloc (.cells #[x] t)) := (Below.refl _ _).alloc (Nat.le_refl _) _
  have hs : (w.alloc (.cells #[x] t)).heap.size = w.heap.size + 1 := World.size_alloc _ _
  have h2 : Below (w.alloc (.cells #[x] t)).heap.size (w.alloc (.cells #[x] t)) ((w.alloc (.cells #[x] t)).alloc (.cells #[y] u)) := (Below.refl _ _).alloc (Nat.le_refl _) _
  refine ⟨h1.trans (h2.mono h1.size), (cell_keep (h2.block _ (by omega)) _).trans (cell_new1 w t x), ?_⟩
  have := cell_new1 (w.alloc (.cells #[x] t)) u y
  rw [hs] at this
  exact this
set_option maxRecDepth 100000 in
set_option maxHeartbeats 1000000 in
/-- How many are not above a stamp. -/
theorem upTo_any (w : World) {S : Nat → Prop} {a : Option Addr} {n c : Nat} {l : List Ver} {s : Int} (hl : RdL Elt.ver S w (.slice a n c) l) (hk : okV l) (hx : l.length ≤ 1000) :
    Calls Try.prog 23 #[.slice a n c, .int .i64 s] w fun e w' => e = .returned (.int .i64 (cntV l s : Nat)) ∧ Below w.heap.size w w' := by
  obtain ⟨rfl, hnc, hcm⟩ := hl.len
  have hb2 := upBoxes w 22 3 (.slice a l.length c) (.int .i64 s)
  go_enter Try.func23, Try.ntmps23
  go_wp2_with fail
  obtain ⟨q0, hc0, hc1⟩ := hb2
  generalize (w.alloc (.cells #[.slice a l.length c] 22)).alloc (.cells #[.int .i64 s] 3) = W at *
  refine (search_any W 31 _ (enters_of Try.func31 (by kernel_rfl) rfl) (by omega) (cntV l s) (cntV_le l s) (fun W2 i hi hb => ?_)).mono ?_
  · refine (upTo1_any (s := s) W2 (hl.below (q0.trans (hb.mono q0.size))) (w.heap.size) (w.heap.size + 1) i hi ?_ ?_).mono ?_
    · exact (cell_keep (hb.block _ (cell_lt hc0)) _).trans hc0
    · exact (cell_keep (hb.block _ (cell_lt hc1)) _).trans hc1
    · rintro e w2 ⟨rfl, hb2⟩
      refine ⟨?_, hb2.mono hb.size⟩
      have := cnt_iff hk s hi
      rw [show decide (s < l[i].stamp) = decide (cntV l s ≤ i) from by rw [decide_eq_decide]; omega]
  · rintro e w2 ⟨rfl, hb2⟩
    go_wp2_with fail
    go_ret
    exact ⟨rfl, q0.trans (hb2.mono q0.size)⟩
end Go.Proofs.Ytemdcpajcaaphaa
