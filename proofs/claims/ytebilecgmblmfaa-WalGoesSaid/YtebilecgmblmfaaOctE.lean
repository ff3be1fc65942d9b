/-
  THE WALKS OF octet's put, Number, Text AND OF THE DOCUMENT's Text. Slices of at most a million bytes; numbers up to 2^31 - 1 where it says so.
-/
import Derived.RangeFuncNested
import Derived.RangeFuncBox
import Derived.Shelf.Abstract
import Derived.WalkKit
import Derived.WalkSpells
import Derived.WalkLawsBesides
import Derived.OwnWalkIn
import Derived.TacticsInMore
import Derived.LoopNIn
import Derived.LoopIn
import Derived.Maps.AppendAt
import Derived.Lib.Hide
import Derived.Test.YtebilecgmblmfaaProg
import Derived.Test.YtebilecgmblmfaaNum
import Derived.Test.YtebilecgmblmfaaByte
import Derived.Test.YtebilecgmblmfaaRange
import Derived.Test.YtebilecgmblmfaaOctA
import Derived.Test.YtebilecgmblmfaaOctB
namespace Go.Proofs.Ytebilecgmblmfaa
open Go.RowKit Go.Shelf
attribute [local go_sem] Oper.semAt_some

theorem pieces_any (m : Int) (w : World) :
    Calls Try.prog 54 #[.int .i64 m] w fun e w' => e = .returned (.func (.func 60) #[] #[.pointer (some ⟨w.heap.size, 0, none⟩)]) ∧ w' = w.alloc (.cells #[.int .i64 m] 3) :=
  (callsIn_wide (n := 3)).1 (pieces_in Fence.wide 3 trivial rfl m w)

set_option maxRecDepth 100000 in
set_option maxHeartbeats 2000000 in
theorem put_any (m : Nat) (hm : m ≤ 2147483647) (w : World) {B : Nat} {ad at' : Option Addr} {n c nt ct : Nat} {xs ts : List UInt8} (hr : Rd B w (.slice ad n c) xs) (ht : Rd B w (.slice at' nt ct) ts) (hB : B ≤ w.heap.size) (hx : xs.length ≤ 1000000) (hxt : ts.length ≤ 1000000) :
    Calls Try.prog 48 #[.slice ad n c, .int .i64 m, .slice at' nt ct] w fun e w' => ∃ ad' k c', e = .returned (.slice ad' k c') ∧ Fresh 5 w w' (.slice ad' k c') (xs ++ numB m ++ ts) := by
  have hn : n ≤ 1000000 := by rw [hr.len.1]; exact hx
  have hnt : nt ≤ 1000000 := by rw [ht.len.1]; exact hxt
  have hl5 := numB_len5 m hm
  refine calls_of_wp_marks Try.func48 rfl ?_
  simp only [Try.ntmps48, List.size_toArray, List.length_cons, List.length_nil, Nat.reduceAdd, Nat.reduceSub, Array.replicate_succ, Array.replicate_zero, List.push_toArray, List.append_toArray, List.nil_append, List.cons_append]
  go_wp2_with (first
    | (go_at_call 51; refine (size_yes m _ hm hl5).mono ?_; rintro e w1 ⟨rfl, hb1⟩)
    | (refine wpList_make byP rfl rfl (k := n + (numB m).length + nt) rfl rfl ?_ ?hk1 ?hk2; intro g w2 hb2 hO2; have hbB := hb1.trans (hb2.mono hb1.size); have hO2' := hO2.to hb1.size; have hbox := Boxed.new w2 22 (.slice (some ⟨g, 0, none⟩) 0 (n + (numB m).length + nt)))
    | (at_builtin; refine wpList_append (ys := []) byP rfl rfl rfl (hO2'.alloc _) rfl (hr.below ((hbB.alloc hbB.size _).mono hB)) (hbB.alloc hbB.size _).size ?_ ?hlen; intro ad3 k3 c3 w3 hO3 hg3 hb3; obtain ⟨hx1, hx2, hO4, hb4⟩ := Boxed.put hbox (by decide) (hO2'.alloc _) hbB.size hO3 hg3; have hc1 := hx1.cell; have hf1 := hx1.frozen)
    | (go_at_call 54; refine (pieces_any m _).mono ?_; rintro e w5 ⟨rfl, hw5⟩))
  case hk1 => omega
  case hk2 => omega
  case hlen => simp; omega
  simp only [List.nil_append] at hO3 hx2 hO4 hb4
  have hsz : (w3.setCell ⟨w2.heap.size, 0, none⟩ (.slice ad3 k3 c3)).heap.size = w3.heap.size := by simp [World.setCell]
  generalize w3.setCell ⟨w2.heap.size, 0, none⟩ (.slice ad3 k3 c3) = W4 at *
  have hbW4 : Below w.heap.size w W4 := ((hbB.alloc hbB.size _).trans hb3).trans hb4
  have bN := Boxed.new W4 3 (.int .i64 m)
  rw [hsz] at bN
  have hbW : Below w.heap.size w (W4.alloc (.cells #[.int .i64 m] 3)) := hbW4.alloc hbW4.size _
  obtain ⟨i0, hi, hz0, hz1, hz2⟩ := byP.info
  refine wp_rangeFunc (gf := 60) (lb := #[.pointer (some ⟨w3.heap.size, 0, none⟩)]) rfl (enters_of Try.func60 (by kernel_rfl) rfl)
    (pieces_stops Fence.wide 2 trivial rfl (by omega) w3.heap.size w.heap.size m hm _ (by simp; omega) bN.cell) belowK_t (belowK_b hbW.size) (Below.refl _ _) (fun _ => rfl)
    (fun pre W => (∃ v, Boxed W w2.heap.size 22 v ∧ Own 5 w.heap.size W v (xs ++ pre) ∧ (pre.length ≤ 5 ∧ ∃ ad k c, v = .slice ad k c)) ∧ Below w.heap.size w W)
    (fun _ _ _ => False)
    (OwnFrom.and (Go.Own.from (holds_own w.heap.size w2.heap.size 22 5 (fun pre => xs ++ pre) (fun pre v => pre.length ≤ 5 ∧ ∃ ad k c, v = .slice ad k c)) _) (ownFrom_below (Nat.le_refl _) hbW.size))
    (fun _ _ _ _ _ hs _ _ => hs)
    ⟨⟨_, hx2.alloc _, by simpa using hO4.alloc _, by simp, ad3, k3, c3, rfl⟩, hbW⟩
    (fun x => { tmps := #[.slice ad n c, .int .i64 m, .slice at' nt ct, undef, undef, undef, .slice none 0 0, .pointer (some ⟨w2.heap.size, 0, none⟩), .int .u8 (x.toNat : Int), .slice ad n c, .int .i64 n, .int .i64 m, .int .i64 (numB m).length, .int .i64 ((n : Int) + (numB m).length), .slice at' nt ct, .int .i64 nt, .int .i64 ((n : Int) + (numB m).length + nt), .slice (some ⟨g, 0, none⟩) 0 (n + (numB m).length + nt), .slice (some ⟨g, 0, none⟩) 0 (n + (numB m).length + nt), .slice ad n c, .slice ad3 k3 c3, .int .i64 m, .func (.func 60) #[] #[.pointer (some ⟨w3.heap.size, 0, none⟩)], .int .u8 (x.toNat : Int), undef, undef, undef, undef, undef, undef, undef], defers := [] }) ?assign ?body ?done ?stop
  case assign =>
    intro l x W K hK
    gi_wp2
    refine Eq.mp ?_ hK
    kernel_rfl
  case body =>
    rintro l pre x W ⟨⟨v, hv, hown, hp5, ad6, k6, c6, rfl⟩, hB6⟩ hlt
    have hk6 : k6 ≤ 1000005 := by rw [hown.len]; simp; omega
    obtain ⟨k6', hrow⟩ := hown
    obtain rfl : k6' = k6 := (own_n hrow).trans (Own.len ⟨_, hrow⟩).symm
    have hc := hv.cell
    have hk1 : k6' + 1 ≤ maxLen := by unfold maxLen; omega
    have hk2 : (k6' + 1) * 1 ≤ 140737488355328 := by omega
    have hk3 : w.heap.size ≤ (W.alloc (.cells #[.int .u8 (x.toNat : Int)] 5)).heap.size := Nat.le_trans hB6.size (by simp)
    gi_wp2_with (gi_at_builtin; refine wpListIn_append_own _ rfl _ _ 22 rfl w.heap.size 5 i0 (.int .u8 0) 1 1 byP.hT hi hz0 hz1 hz2 rfl (by decide) _ _ _ rfl (hrow.alloc _) ⟨W.heap.size, 0, none⟩ 1 1 [.int .u8 (x.toNat : Int)] rfl rfl (cell_one_new _ _ _) (by simp [Value.oneCell']) hk1 hk2 hk3 ?_; intro v' w1 hown' hgrow _; obtain ⟨g', cap', rfl⟩ := ownsRow_succ hown'; obtain ⟨hv1, hv2, hr2, hk2, hb2⟩ := hv.appended (by decide) hrow hB6.size hbB.size hown' hgrow; have hc1 := hv1.cell; have hf1 := hv1.frozen)
    refine ⟨hk2.from _, hb2, ⟨_, hv2, ⟨k6' + 1, ?_⟩, ?_, _, _, _, rfl⟩, hB6.trans hb2⟩
    · rw [← List.append_assoc, bv_append]; exact hr2
    · simp; omega
  case done =>
    rintro D ys W hD rfl ⟨⟨v, hv, hown, hp5, ad6, k6, c6, rfl⟩, hB6⟩ hK
    have hc := hv.cell
    go_wp2_with (at_builtin; refine wpList_append byP rfl rfl rfl hown rfl (ht.below (hB6.mono hB)) hB6.size ?_ ?hlen; intro ad7 k7 c7 w7 hO7 hg7 hb7)
    case hlen => simp; omega
    have hg7' : W.grownBy w7 (Value.slice ad6 k6 c6).ownBlock := hg7
    have hK7 : w7.heap[D]? = some (.deferred (some [])) := (hg7'.block D (Array.getElem?_eq_some_iff.1 hK).1 (hown.ne_block hK rfl)).trans hK
    refine ⟨by simp, .inl ⟨_, _, rfl, run_takeDeferred hK7, ?_⟩⟩
    exact ⟨_, results_tmp rfl _ _ _, ad7, k7, c7, rfl, (hB6.trans hb7).trans (belowK_b (w := w) (Nat.le_refl _) w7 D _ _ (Nat.le_trans hbW.size hD) hK7 rfl rfl), hO7.putObj _ hK7 rfl⟩
  case stop =>
    rintro D c pre W _ _ h _
    exact h.elim

/-- What Text writes behind any bytes. -/
def textB (ts : List UInt8) : List UInt8 := numB ts.length ++ ts

theorem text_no (v : Value) (w : World) {at' : Option Addr} {nt ct : Nat} (h : 65535 < nt) (h2 : nt ≤ 9223372036854775807) :
    Calls Try.prog 42 #[v, .slice at' nt ct] w fun e w' => e = .returned (.tuple #[.slice none 0 0, .int .i64 10]) ∧ w = w' := by
  go_enter Try.func42, Try.ntmps42
  go_wp2
  go_ret2
  exact ⟨rfl, rfl⟩

theorem text_yes (w : World) {B : Nat} {ad at' : Option Addr} {n c nt ct : Nat} {xs ts : List UInt8} (hr : Rd B w (.slice ad n c) xs) (ht : Rd B w (.slice at' nt ct) ts) (hB : B ≤ w.heap.size) (hx : xs.length ≤ 1000000) (hxt : ts.length ≤ 65535) :
    Calls Try.prog 42 #[.slice ad n c, .slice at' nt ct] w fun e w' => ∃ ad' k c', e = .returned (.tuple #[.slice ad' k c', .int .i64 0]) ∧ Fresh 5 w w' (.slice ad' k c') (xs ++ textB ts) := by
  obtain rfl : nt = ts.length := ht.len.1
  have h1 : ¬ (65535 : Int) < (ts.length : Int) := by omega
  go_enter Try.func42, Try.ntmps42
  go_wp2_with (go_at_call 48; refine (put_any ts.length (by omega) _ hr ht hB hx (by omega)).mono ?_; rintro e w2 ⟨ad2, k2, c2, rfl, hF⟩)
  go_ret2
  rw [List.append_assoc] at hF
  exact ⟨_, _, _, rfl, hF⟩

theorem refText_no (v : Value) (w : World) {at' : Option Addr} {nt ct : Nat} (h : 65535 < nt) (h2 : nt ≤ 9223372036854775807) :
    Calls Try.prog 38 #[v, .slice at' nt ct] w fun e w' => e = .returned (.tuple #[.slice none 0 0, .int .i64 10]) ∧ w = w' := by
  go_enter Try.func38, Try.ntmps38
  go_wp2
  go_ret2
  exact ⟨rfl, rfl⟩

theorem refText_yes (w : World) {B : Nat} {ad at' : Option Addr} {n c nt ct : Nat} {xs ts : List UInt8} (hr : Rd B w (.slice ad n c) xs) (ht : Rd B w (.slice at' nt ct) ts) (hB : B ≤ w.heap.size) (hx : xs.length ≤ 1000000) (hxt : ts.length ≤ 65535) :
    Calls Try.prog 38 #[.slice ad n c, .slice at' nt ct] w fun e w' => ∃ ad' k c', e = .returned (.tuple #[.slice ad' k c', .int .i64 0]) ∧ Fresh 5 w w' (.slice ad' k c') (xs ++ textB ts) := by
  obtain rfl : nt = ts.length := ht.len.1
  have h1 : ¬ (65535 : Int) < (ts.length : Int) := by omega
  have hl5 := numB_len5 ts.length (by omega)
  go_enter Try.func38, Try.ntmps38
  go_wp2_with (first
    | (go_at_call 44; refine (refNumber_yes ts.length (by omega) _ hr hB hx).mono ?_; rintro e w2 ⟨ad2, k2, c2, rfl, hF⟩)
    | (at_builtin; refine wpList_append byP rfl rfl rfl hF.2 rfl (ht.below (hF.1.mono hB)) hF.1.size ?_ ?hlen; intro ad7 k7 c7 w7 hO7 hg7 hb7))
  case hlen => simp; omega
  go_ret2
  rw [List.append_assoc] at hO7
  exact ⟨_, _, _, rfl, hF.1.trans hb7, hO7⟩
end Go.Proofs.Ytebilecgmblmfaa
