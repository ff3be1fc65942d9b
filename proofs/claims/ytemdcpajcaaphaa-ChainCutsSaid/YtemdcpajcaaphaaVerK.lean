/-
  THE WALK OF chain's OWN copied: versions, and more behind, in new memory, all of it. Few versions, of at most a million bytes each.
-/
import Derived.WalkKit
import Derived.WalkSpells
import Derived.WalkLawsBesides
import Derived.Lib.Hide
import Derived.Deep.Cut
import Derived.Test.YtemdcpajcaaphaaProg
import Derived.Test.YtemdcpajcaaphaaByte
import Derived.Test.YtemdcpajcaaphaaAux
import Derived.Test.YtemdcpajcaaphaaCpy
import Derived.Test.YtemdcpajcaaphaaOctB
import Derived.Test.YtemdcpajcaaphaaVer
import Derived.Test.YtemdcpajcaaphaaVerM
import Derived.Test.YtemdcpajcaaphaaVerX
namespace Go.Proofs.Ytemdcpajcaaphaa
open Go.RowKit
/-- A row of versions of which the first k have their values in new memory. -/
def HalfV (w : World) (g : Nat) (xs : List Ver) (k : Nat) (W : World) : Prop :=
  ∃ vs us, W.heap[g]? = some (.cells (vs ++ us).toArray 25 (0, 0)) ∧ Flat Elt.ver (fun j => w.heap.size ≤ j ∧ j < W.heap.size ∧ j ≠ g) W (xs.take k) vs ∧ Flat Elt.ver (fun j => j < w.heap.size) W (xs.drop k) us ∧ w.heap.size ≤ g ∧ Below w.heap.size w W
theorem HalfV.lt {w W : World} {g k : Nat} {xs : List Ver} (h : HalfV w g xs k W) : g < W.heap.size := by
  obtain ⟨vs, us, hg, _⟩ := h
  exact (Array.getElem?_eq_some_iff.1 hg).1
theorem HalfV.at {w W : World} {g k : Nat} {xs : List Ver} (h : HalfV w g xs k W) (hk : k < xs.length) :
    ∃ A C, W.cell? ⟨g, k * 3 + 2, none⟩ = some (.slice A xs[k].value.length C) ∧ RdS (fun j => j < w.heap.size) W (.slice A xs[k].value.length C) xs[k].value ∧
      ∀ W2 v2, Below W.heap.size W W2 → RdS (fun j => W.heap.size ≤ j ∧ j < W2.heap.size) W2 v2 xs[k].value →
        W2.cell? ⟨g, k * 3 + 2, none⟩ = some (.slice A xs[k].value.length C) ∧ W2.frozen? ⟨g, k * 3 + 2, none⟩ = false ∧ HalfV w g xs (k + 1) (W2.setCell ⟨g, k * 3 + 2, none⟩ v2) := by
  have hlt := h.lt
  obtain ⟨vs, us, hg, hv, hu, hwg, hb⟩ := h
  have hvl := hv.len
  rw [List.length_take, Nat.min_eq_left (Nat.le_of_lt hk)] at hvl
  rw [List.drop_eq_getElem_cons hk] at hu
  obtain ⟨cs, us', rfl, ⟨v, rfl, hrv, hi⟩, hu'⟩ := hu
  obtain ⟨A, C, rfl, _, _⟩ := hrv.shape
  have hvl' : vs.length = k * 3 := hvl
  have hget : (vs ++ (verC xs[k] (.slice A xs[k].value.length C) ++ us'))[k * 3 + 2]? = some (.slice A xs[k].value.length C) := by
    rw [List.getElem?_append_right (by omega), show k * 3 + 2 - vs.length = 2 by omega]
    rfl
  have hcell : ∀ X : World, X.heap[g]? = some (.cells (vs ++ (verC xs[k] (.slice A xs[k].value.length C) ++ us')).toArray 25 (0, 0)) → X.cell? ⟨g, k * 3 + 2, none⟩ = some (.slice A xs[k].value.length C) := fun X hX => by
    simp only [World.cell?, hX, List.getElem?_toArray]
    exact hget
  refine ⟨A, C, hcell W hg, hrv, fun W2 v2 hb2 hr2 => ?_⟩
  have hg2 := (hb2.block g hlt).trans hg
  refine ⟨hcell W2 hg2, by simp [World.frozen?, hg2], vs ++ verC xs[k] v2, us', ?_, ?_, ?_, hwg, ?_⟩
  · rw [show (W2.setCell ⟨g, k * 3 + 2, none⟩ v2).heap[g]? = some (.cells ((vs ++ (verC xs[k] (.slice A xs[k].value.length C) ++ us')).toArray.setIfInBounds (k * 3 + 2) v2) 25 (0, 0)) by simp [World.setCell, Array.getElem?_modify, hg2]]
    congr 2
    apply Array.ext'
    simp only [Array.toList_setIfInBounds]
    rw [List.set_append_right _ _ (by omega), show k * 3 + 2 - vs.length = 2 by omega]
    simp [verC, List.append_assoc]
  · rw [List.take_add_one, List.getElem?_eq_getElem hk]
    have hkeep : ∀ j, j ≠ g → j < W.heap.size → (W2.setCell ⟨g, k * 3 + 2, none⟩ v2).heap[j]? = W.heap[j]? := fun j hj h1 => (heap_setCell_other W2 ⟨g, k * 3 + 2, none⟩ j v2 hj).trans (hb2.block j h1)
    refine Flat.append ?_ ?_
    · refine (hv.keep (w' := W2.setCell ⟨g, k * 3 + 2, none⟩ v2) fun j hj => hkeep j hj.2.2 hj.2.1).weak fun j hj => ⟨hj.1, ?_, hj.2.2⟩
      have := hb2.size
      rw [size_set]; omega
    · refine ⟨verC xs[k] v2, [], by simp, ⟨v2, rfl, ?_, hi⟩, rfl⟩
      refine (hr2.keep (w' := W2.setCell ⟨g, k * 3 + 2, none⟩ v2) fun j hj => heap_setCell_other W2 ⟨g, k * 3 + 2, none⟩ j v2 (by have h1 : W.heap.size ≤ j := hj.1; show j ≠ g; omega)).weak fun j hj => ⟨Nat.le_trans hb.size hj.1, ?_, by have h1 : W.heap.size ≤ j := hj.1; omega⟩
      rw [size_set]; exact hj.2
  · exact hu'.keep fun j hj => (heap_setCell_other W2 ⟨g, k * 3 + 2, none⟩ j v2 (by have h1 : j < w.heap.size := hj; show j ≠ g; omega)).trans (hb2.block j (Nat.lt_of_lt_of_le hj hb.size))
  · exact (hb.trans (hb2.mono hb.size)).setCell (p := ⟨g, k * 3 + 2, none⟩) hwg _
theorem HalfV.done {w W : World} {g : Nat} {xs : List Ver} (h : HalfV w g xs xs.length W) (hm : xs.length ≤ maxLen) : RdL Elt.ver (fun k => w.heap.size ≤ k ∧ k < W.heap.size) W (.slice (some ⟨g, 0, none⟩) xs.length xs.length) xs := by
  have hlt := h.lt
  obtain ⟨vs, us, hg, hv, hu, hwg, hb⟩ := h
  rw [List.take_length] at hv
  refine ⟨some ⟨g, 0, none⟩, xs.length, rfl, Nat.le_refl _, hm, .inr ⟨g, 0, rfl, ⟨hwg, hlt⟩, fun r hr => ?_⟩⟩
  obtain ⟨cs, h1, h2⟩ := hv.at r hr
  refine ⟨cs, Elt.ver.weak h1 fun j hj => ⟨hj.1, hj.2.1⟩, fun j u hj => ?_⟩
  have h3 := h2 j u hj
  rw [Nat.zero_add]
  simp only [World.cell?, hg, List.getElem?_toArray]
  rw [List.getElem?_append_left (List.getElem?_eq_some_iff.1 h3).1]
  exact h3
theorem HalfV.drew {w W : World} {g k : Nat} {xs : List Ver} (h : HalfV w g xs k W) (n : Nat) : HalfV w g xs k (W.drewN n) := by
  obtain ⟨vs, us, hg, hv, hu, hwg, hb⟩ := h
  refine ⟨vs, us, hg, ?_, ?_, hwg, Below.drewN hb n⟩
  · exact hv.keep fun _ _ => rfl
  · exact hu.keep fun _ _ => rfl

theorem rows_joined {cur : Array Value} {cs cs2 : List Value} {off2 p q : Nat} (hcur : cur.size = p + q) (h1 : cs.length = p) (h2 : cs2.length = q) (ho : (q = 0 ∧ off2 = 0) ∨ off2 = p) :
    (cur.toList.take 0 ++ cs ++ cur.toList.drop (0 + cs.length)).toArray.toList.take off2 ++ cs2 ++ (cur.toList.take 0 ++ cs ++ cur.toList.drop (0 + cs.length)).toArray.toList.drop (off2 + cs2.length) = cs ++ cs2 := by
  simp only [List.take_zero, List.nil_append, Nat.zero_add]
  rcases ho with ⟨rfl, rfl⟩ | rfl
  · obtain rfl : cs2 = [] := List.eq_nil_of_length_eq_zero h2
    have : cur.toList.drop cs.length = [] := List.drop_eq_nil_of_le (by simp; omega)
    simp [this]
  · have e1 : (cs ++ cur.toList.drop cs.length).take off2 = cs := by rw [← h1]; simp
    have e2 : (cs ++ cur.toList.drop cs.length).drop (off2 + cs2.length) = [] := List.drop_eq_nil_of_le (by simp; omega)
    rw [e1, e2]
    simp
theorem off_of (G n m : Nat) : ∃ off, (if n + m = n then some (⟨G, 0, none⟩ : Addr) else (some (⟨G, 0, none⟩ : Addr)).map (·.add (n * 3))) = some ⟨G, off, none⟩ ∧ ((m * 3 = 0 ∧ off = 0) ∨ off = n * 3) := by
  by_cases h : n + m = n
  · exact ⟨0, by rw [if_pos h], .inl ⟨by omega, rfl⟩⟩
  · refine ⟨n * 3, ?_, .inr rfl⟩
    rw [if_neg h]
    simp [Addr.add_lit]
theorem HalfV.start {w W : World} {G : Nat} {cs cs2 : List Value} {l m : List Ver} (hg : W.heap[G]? = some (.cells (cs ++ cs2).toArray 25 (0, 0))) (hb : Below w.heap.size w W) (hG : w.heap.size ≤ G)
    (h1 : Flat Elt.ver (· < w.heap.size) W l cs) (h2 : Flat Elt.ver (· < w.heap.size) W m cs2) : HalfV w G (l ++ m) 0 W :=
  ⟨[], cs ++ cs2, hg, rfl, h1.append h2, hG, hb⟩

set_option maxRecDepth 100000 in
set_option maxHeartbeats 2000000 in
theorem copied_any (w : World) {S S2 : Nat → Prop} {a a2 : Option Addr} {n c n2 c2 : Nat} {l m : List Ver} (hl : RdL Elt.ver S w (.slice a n c) l) (hm : RdL Elt.ver S2 w (.slice a2 n2 c2) m) (hln : l.length ≤ 1000000) (hmn : m.length ≤ 1000000) (hx : ∀ x ∈ l ++ m, x.value.length ≤ 1000000) :
    Calls Try.prog 27 #[.slice a n c, .slice a2 n2 c2] w (VersNew w (l ++ m)) := by
  obtain ⟨rfl, hnc, hcm⟩ := hl.len
  obtain ⟨rfl, hnc2, hcm2⟩ := hm.len
  obtain ⟨off, hoff, ho⟩ := off_of w.heap.size l.length m.length
  have hl0 := hl.fit.weak (S' := fun k => k < w.heap.size) (fun _ h => h.2)
  have hm0 := hm.fit.weak (S' := fun k => k < w.heap.size) (fun _ h => h.2)
  clear hl hm
  go_enter Try.func27, Try.ntmps27
  go_upto_region 2 with (first
    | (refine wpList_makeL (E := Elt.ver) verP rfl rfl (k := l.length + m.length) rfl rfl ?_ (by omega) (by omega); intro cur hcur)
    | fail)
  have hg1 : (w.alloc (.cells cur 25)).heap[w.heap.size]? = some (.cells cur 25 (0, 0)) := by simp only [World.alloc, Array.getElem?_push_size]
  have q1 : Below w.heap.size w (w.alloc (.cells cur 25)) := (Below.refl _ _).alloc (Nat.le_refl _) _
  generalize w.alloc (.cells cur 25) = W at *
  have hl1 := hl0.below q1
  have hfit1 : 0 + l.length * Elt.ver.size ≤ cur.size := by rw [hcur, Nat.add_mul]; omega
  clear hl0
  go_wp2_with (first
    | (refine wpList_copy_rows (E := Elt.ver) verP.toLsP rfl rfl rfl rfl hl1 hg1 ?_ (by omega) hfit1; intro cs W2 hcs hg2 hgr2; have q2 := q1.grown hgr2 q1.size (fun k hk => by injection hk with hk; omega); have hm2 := hm0.below q2; have hcl := hcs.len; clear hl1 hm0)
    | (refine wpList_copy_rows (E := Elt.ver) verP.toLsP rfl rfl rfl rfl hm2 hg2 ?_ (by omega) ?hfit2; intro cs2 W3 hcs2 hg3 hgr3; have q3 := q2.grown hgr3 q2.size (fun k hk => by injection hk with hk; omega); clear hm2)
    | (refine wpList_sliceRaw verP.toLsP rfl rfl rfl (l := l.length) (r := l.length + m.length) (run_bounds_l _ (by omega)) ?_; rw [hoff])
    | fail)
  case hfit2 =>
    have e3 : Elt.ver.size = 3 := rfl
    simp only [e3] at hcl hcur ⊢
    simp
    rcases ho with ⟨h1, h2⟩ | h1 <;> omega
  have e := rows_joined (cur := cur) (cs := cs) (cs2 := cs2) (off2 := off) (p := l.length * 3) (q := m.length * 3) (by rw [hcur, Nat.add_mul]; rfl) hcl hcs2.len ho
  rw [e] at hg3
  have H0 : HalfV w w.heap.size (l ++ m) 0 W3 := HalfV.start hg3 q3 (Nat.le_refl _)
    (hcs.keep fun k hk => (hgr3.block k (Nat.lt_of_lt_of_le hk q2.size) (fun e => by injection e with e; exact Nat.lt_irrefl _ (e ▸ hk))).trans (hgr2.block k (Nat.lt_of_lt_of_le hk q1.size) (fun e => by injection e with e; exact Nat.lt_irrefl _ (e ▸ hk))))
    (hcs2.keep fun k hk => hgr3.block k (Nat.lt_of_lt_of_le hk q2.size) (fun e => by injection e with e; exact Nat.lt_irrefl _ (e ▸ hk)))
  clear e hcs hcs2 hg2 hg3 hgr2 hgr3 q1 q2 q3 hcl hg1 hfit1 hoff ho hcur
  have hN : l.length + m.length = (l ++ m).length := by simp
  have hNs : (l ++ m).length ≤ 2000000 := by omega
  have hNI : (l.length : Int) + (m.length : Int) = ((l ++ m).length : Int) := by omega
  rw [hN, hNI]
  clear hN hNI
  generalize l ++ m = xs at *
  go_upto_region 4 with (fail)
  go_loopw [22] (fun iv wr => ∃ k : Nat, iv = .int .i64 k ∧ k ≤ xs.length ∧ HalfV w w.heap.size xs k wr) (fun i _ => xs.length - (intOf i).toNat)
  case atStart => exact ⟨0, rfl, Nat.zero_le _, H0⟩
  case round =>
    clear H0
    obtain ⟨k, rfl, hkl, H⟩ := hrel
    rcases Nat.lt_or_ge k xs.length with hlt | hge
    · obtain ⟨A, C, c0, hr, hnext⟩ := H.at hlt
      have hv := hx _ (List.getElem_mem hlt)
      go_wp2_with fail
      refine (clone_any wr hr.rd (Nat.le_refl _) hv).mono ?_
      rintro e w2 ⟨A2, k2, C2, rfl, hF⟩
      obtain ⟨c2', f2, H2⟩ := hnext w2 _ hF.1 (Own.rdS hF.2)
      clear hnext hr c0 hv
      go_wp2_with fail
      go_roundw
      case rel => exact ⟨k + 1, by go_num, by omega, H2⟩
      case measure => simp [intOf]; omega
    · obtain rfl : k = xs.length := by omega
      go_wp2_with fail
      go_ret
      have h1 := H.done (by unfold maxLen; omega)
      obtain ⟨_, _, _, _, _, _, hb⟩ := H
      exact ⟨_, _, rfl, h1, hb⟩
end Go.Proofs.Ytemdcpajcaaphaa
