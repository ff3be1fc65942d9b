/-
  THE WALKS OF THE DOCUMENT's ANSWER FOR chain, GOING ON: Newer, Read. Whatever versions.
-/
import Derived.WalkKit
import Derived.WalkSpells
import Derived.WalkLawsBesides
import Derived.Lib.Hide
import Derived.Deep.Cut
import Derived.Deep.QuietTactic
import Derived.BigQuiet
import Derived.Test.YtemdcpajcaaphaaProg
import Derived.Test.YtemdcpajcaaphaaByte
import Derived.Test.YtemdcpajcaaphaaAux
import Derived.Test.YtemdcpajcaaphaaVer
import Derived.Test.YtemdcpajcaaphaaVerM
import Derived.Test.YtemdcpajcaaphaaVerR
namespace Go.Proofs.Ytemdcpajcaaphaa
open Go.RowKit
/-- A place in a list whose block is known. -/
theorem RdL.verAt {S : Nat → Prop} {w : World} {b off n c : Nat} {l : List Ver} (h : RdL Elt.ver S w (.slice (some ⟨b, off, none⟩) n c) l) (r : Nat) (hr : r < l.length) :
    ∃ A C, w.cell? ⟨b, off + r * 3, none⟩ = some (.int .i64 l[r].stamp) ∧ w.cell? ⟨b, off + r * 3 + 1, none⟩ = some (.bool l[r].gone) ∧ w.cell? ⟨b, off + r * 3 + 2, none⟩ = some (.slice A l[r].value.length C) ∧
      RdS S w (.slice A l[r].value.length C) l[r].value ∧ I64' l[r].stamp ∧ l[r].value.length ≤ C ∧ C ≤ maxLen := by
  obtain ⟨b', off', A, C, e, hb, c0, c1, c2, hv, hi, h1, h2⟩ := h.ver r hr
  cases e
  exact ⟨A, C, c0, c1, c2, hv, hi, h1, h2⟩
theorem newerV_last {l : List Ver} {m : Nat} (hm : l.length = m + 1) (s : Int) : newerV l s = (decide (okV l) && decide (s < (l[m]'(by omega)).stamp)) := by
  unfold newerV
  rw [List.getLast?_eq_getElem?, show l.length - 1 = m by omega, List.getElem?_eq_getElem (by omega)]
theorem newerV_nil (s : Int) : newerV [] s = false := by simp [newerV]
set_option maxRecDepth 100000 in
set_option maxHeartbeats 1000000 in
theorem refNewer_any (w : World) {S : Nat → Prop} {a : Option Addr} {n c : Nat} {l : List Ver} (hl : RdL Elt.ver S w (.slice a n c) l) (s : Int) :
    Calls Try.prog 22 #[.slice a n c, .int .i64 s] w fun e w' => e = .returned (.bool (newerV l s)) ∧ Below w.heap.size w w' := by
  obtain ⟨rfl, hnc, hcm⟩ := hl.len
  have hlm : l.length ≤ 9223372036854775807 := by unfold maxLen at hcm; omega
  go_enter Try.func22, Try.ntmps22
  go_wp2_with fail
  refine (refCheckV_any w hl).mono ?_
  rintro e w1 ⟨rfl, hb1⟩
  replace hl := hl.below hb1
  by_cases hk : okV l
  · rw [decide_eq_true hk]
    rcases Nat.eq_zero_or_pos l.length with h0 | h0
    · obtain rfl : l = [] := List.eq_nil_of_length_eq_zero h0
      have hx := Lib.hid (newerV_nil s)
      clear hk h0
      go_wp2_with fail
      go_ret
      exact ⟨by rw [hx.out]; rfl, hb1⟩
    · obtain ⟨m, hm⟩ : ∃ m, l.length = m + 1 := ⟨l.length - 1, by omega⟩
      have hx := newerV_last hm s
      rw [decide_eq_true hk, Bool.true_and] at hx
      obtain ⟨b, off, A, C, rfl, hb, c0, c1, c2, hv, hi, hn1, hn2⟩ := hl.ver m (by omega)
      have hx := Lib.hid hx
      have hm1 : (l.length : Int) - 1 = (m : Int) := by omega
      have hmlt : (m : Int) < (l.length : Int) := by omega
      have hpos : (0 : Int) < (l.length : Int) := by omega
      clear hl c1 c2 hv hn1 hn2 hi
      generalize (l[m]'(by omega)).stamp = st at *
      clear hk h0 hm
      go_wp2_with fail
      go_ret
      exact ⟨by rw [hx.out]; rfl, hb1⟩
  · have hx := Lib.hid (show newerV l s = false by unfold newerV; rw [decide_eq_false hk]; rfl)
    rw [decide_eq_false hk]
    clear hk
    go_wp2_with fail
    go_ret
    exact ⟨by rw [hx.out]; rfl, hb1⟩

/-- What Read hands back. -/
def ReadVEnd (w : World) (l : List Ver) (s : Int) (e : Ending) (w' : World) : Prop :=
  ∃ a c, e = .returned (.tuple #[.slice a ((readV l s).getD []).length c, .bool (readV l s).isSome]) ∧ RdS (fun k => w.heap.size ≤ k ∧ k < w'.heap.size) w' (.slice a ((readV l s).getD []).length c) ((readV l s).getD []) ∧ Below w.heap.size w w'
theorem ReadVEnd.no {w w' : World} {l : List Ver} {s : Int} (h : readV l s = none) (hb : Below w.heap.size w w') : ReadVEnd w l s (.returned (.tuple #[.slice none 0 0, .bool false])) w' := by
  unfold ReadVEnd
  rw [h]
  exact ⟨none, 0, rfl, RdS.nil _ _, hb⟩
theorem ReadVEnd.yes {w w' : World} {l : List Ver} {s : Int} {xs : List UInt8} {a : Option Addr} {c : Nat} (h : readV l s = some xs) (hr : RdS (fun k => w.heap.size ≤ k ∧ k < w'.heap.size) w' (.slice a xs.length c) xs) (hb : Below w.heap.size w w') : ReadVEnd w l s (.returned (.tuple #[.slice a xs.length c, .bool true])) w' := by
  unfold ReadVEnd
  rw [h]
  exact ⟨a, c, rfl, hr, hb⟩
theorem readV_bad {l : List Ver} {s : Int} (h : ¬ okV l) : readV l s = none := by unfold readV; rw [if_neg h]
theorem readV_zero {l : List Ver} {s : Int} (h : cntV l s = 0) : readV l s = none := by unfold readV; split <;> simp [h]
theorem readV_gone {l : List Ver} {s : Int} {m : Nat} (h : cntV l s = m + 1) (hm : m < l.length) (hg : l[m].gone = true) : readV l s = none := by
  unfold readV
  split
  · rw [dif_pos (by omega)]
    simp only [h, Nat.add_sub_cancel, hg, if_true]
  · rfl
theorem readV_some {l : List Ver} {s : Int} {m : Nat} (hk : okV l) (h : cntV l s = m + 1) (hm : m < l.length) (hg : l[m].gone = false) : readV l s = some l[m].value := by
  unfold readV
  rw [if_pos hk, dif_pos (by omega)]
  simp only [h, Nat.add_sub_cancel, hg, Bool.false_eq_true, if_false]
set_option maxRecDepth 100000 in
set_option maxHeartbeats 1000000 in
theorem refReadV_any (w : World) {S : Nat → Prop} {a : Option Addr} {n c : Nat} {l : List Ver} (hl : RdL Elt.ver S w (.slice a n c) l) (s : Int) :
    Calls Try.prog 13 #[.slice a n c, .int .i64 s] w (ReadVEnd w l s) := by
  obtain ⟨rfl, hnc, hcm⟩ := hl.len
  have hlm : l.length ≤ 9223372036854775807 := by unfold maxLen at hcm; omega
  go_enter Try.func13, Try.ntmps13
  go_wp2_with fail
  refine (refCheckV_any w hl).mono ?_
  rintro e w1 ⟨rfl, hb1⟩
  replace hl := hl.below hb1
  go_wp2_with fail
  refine (refAt_any w1 hl s).mono ?_
  rintro e w2 ⟨rfl, rfl⟩
  by_cases hk : okV l
  · rw [decide_eq_true hk]
    cases hc : cntV l s with
    | zero =>
      have hx := readV_zero hc
      clear hk hc
      go_wp2_with fail
      go_ret2
      exact ReadVEnd.no hx hb1
    | succ m =>
      have hml : m < l.length := by have := cntV_le l s; omega
      have hm1 : (((m + 1 : Nat) : Int)) - 1 = (m : Int) := by omega
      rw [hm1]
      have hmn : decide ((m : Int) < 0) = false := by rw [decide_eq_false_iff_not]; omega
      obtain ⟨b, off, A, C, rfl, hb, c0, c1, c2, hv, hi, hn1, hn2⟩ := hl.ver m hml
      cases hg : l[m].gone with
      | true =>
        have hx := readV_gone hc hml hg
        rw [hg] at c1
        clear hk hc hm1 hg
        go_wp2_with fail
        go_ret2
        exact ReadVEnd.no hx hb1
      | false =>
        have hx := readV_some hk hc hml hg
        have hvl : l[m].value.length ≤ 32 := (hk m hml).1.2.2.1
        rw [hg] at c1
        generalize l[m].value = xs at *
        clear hk hc hm1 hg hi
        have hvr := hv.rd
        go_wp2_with (first
          | (refine wpList_lit byP rfl [] rfl rfl rfl ?_ (by simp); intro g1 k1 w3 hF1; obtain rfl := hF1.len; have hvr3 := hvr.below hF1.1; have c23 := (hF1.1.cell (p := ⟨b, off + m * 3 + 2, none⟩) (cell_lt c2)).trans c2)
          | (at_builtin; refine wpList_append byP rfl rfl rfl hF1.2 rfl hvr3 hF1.1.size ?_ (by simp; omega); intro ad3 k3 c3 w4 hO3 hg3 hb3))
        rw [List.nil_append] at hO3
        obtain rfl := hO3.len
        go_ret2
        exact ReadVEnd.yes hx (hO3.rdS.weak fun k hk => ⟨Nat.le_trans hb1.size hk.1, hk.2⟩) (hb1.trans ((hF1.1.trans (hb3.mono (Nat.le_refl _))).mono hb1.size))
  · have hx := readV_bad (s := s) hk
    rw [decide_eq_false hk]
    clear hk
    go_wp2_with fail
    go_ret2
    exact ReadVEnd.no hx hb1
end Go.Proofs.Ytemdcpajcaaphaa
