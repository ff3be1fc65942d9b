/-
  THE WALK OF THE DOCUMENT's Copy (versions): new memory, all of it. At most a million versions, of at most a million bytes each.
-/
import Derived.WalkKit
import Derived.WalkSpells
import Derived.WalkLawsBesides
import Derived.Lib.Hide
import Derived.Deep.Cut
import Derived.Shelf.Abstract
import Derived.Test.YtemdcpajcaaphaaProg
import Derived.Test.YtemdcpajcaaphaaByte
import Derived.Test.YtemdcpajcaaphaaAux
import Derived.Test.YtemdcpajcaaphaaSink
import Derived.Test.YtemdcpajcaaphaaVer
import Derived.Test.YtemdcpajcaaphaaVerM
namespace Go.Proofs.Ytemdcpajcaaphaa
open Go.RowKit Go.Shelf
/-- A slice of the call's own, whose row is not that block. -/
theorem own_grown {E : TypeId} {base : Nat} {w w' : World} {v : Value} {xs : List UInt8} {r : Option Nat} (h : Own E base w v xs) (hg : w.grownBy w' r) (hr : ∀ k, r = some k → k < base) : Own E base w' v xs := by
  have hb := h
  obtain ⟨n, h⟩ := h
  refine ⟨n, World.ownsRow.kept h hg ?_⟩
  rcases h.2 with ⟨rfl, _⟩ | ⟨g2, cap, cur, rfl, hb2, _⟩
  · exact .inl rfl
  · right
    intro e
    have := hr g2 e.symm
    omega
def mOwnB (E : TypeId) (base : Nat) (r : Option Nat) (hr : ∀ k, r = some k → k < base) (xs : List UInt8) : SGm (fun A B => A.grownBy B r) := ⟨fun w v => ∃ ad k c, v = .slice ad k c ∧ Own E base w (.slice ad k c) xs, fun _ _ _ ⟨ad, k, c, h, ho⟩ hb => ⟨ad, k, c, h, ho.below hb⟩, fun _ _ _ ⟨ad, k, c, h, ho⟩ hk => ⟨ad, k, c, h, own_grown ho hk hr⟩⟩
def mZeroB (E : TypeId) (base : Nat) (r : Option Nat) (hr : ∀ k, r = some k → k < base) : SGm (fun A B => A.grownBy B r) := ⟨fun w v => ∃ g, v = .slice (some g) 0 0 ∧ Own E base w (.slice (some g) 0 0) [], fun _ _ _ ⟨g, h, ho⟩ hb => ⟨g, h, ho.below hb⟩, fun _ _ _ ⟨g, h, ho⟩ hk => ⟨g, h, own_grown ho hk hr⟩⟩
/-- A version's value, its bytes the call's own. -/
def mVer (E : TypeId) (base : Nat) (r : Option Nat) (hr : ∀ k, r = some k → k < base) (x : Ver) : SGm (fun A B => A.grownBy B r) := ⟨fun w v => ∃ ad k c, v = .agg (verC x (.slice ad k c)).toArray ∧ Own E base w (.slice ad k c) x.value, fun _ _ _ ⟨ad, k, c, h, ho⟩ hb => ⟨ad, k, c, h, ho.below hb⟩, fun _ _ _ ⟨ad, k, c, h, ho⟩ hk => ⟨ad, k, c, h, own_grown ho hk hr⟩⟩
/-- A row of one version, made on the way. -/
def mVer1 (E T : TypeId) (base : Nat) (r : Option Nat) (hr : ∀ k, r = some k → k < base) (x : Ver) : SGm (fun A B => A.grownBy B r) := ⟨fun w v => ∃ b ad k c, v = .slice (some ⟨b, 0, none⟩) 1 1 ∧ base ≤ b ∧ w.heap[b]? = some (.cells (verC x (.slice ad k c)).toArray T (0, 0)) ∧ Own E base w (.slice ad k c) x.value,
  fun _ _ _ ⟨b, ad, k, c, h, h0, hc, ho⟩ hb => ⟨b, ad, k, c, h, h0, (hb.block b (Array.getElem?_eq_some_iff.1 hc).1).trans hc, ho.below hb⟩,
  fun _ _ _ ⟨b, ad, k, c, h, h0, hc, ho⟩ hk => ⟨b, ad, k, c, h, h0, (hk.block b (Array.getElem?_eq_some_iff.1 hc).1 (fun e => by have := hr b e.symm; omega)).trans hc, own_grown ho hk hr⟩⟩
theorem cells_at {w : World} {b : Nat} {t : TypeId} {us : List Value} (h : w.heap[b]? = some (.cells us.toArray t (0, 0))) (j : Nat) (u : Value) (hj : us[j]? = some u) : w.cell? (Addr.add ⟨b, 0, none⟩ j) = some u := by
  rw [Addr.add_lit, World.cell?, h]
  simpa using hj
/-- What Copy hands back: new memory, all of it. -/
def CopyEnd (w : World) (l : List Ver) (e : Ending) (w' : World) : Prop :=
  ∃ a c, e = .returned (.slice a l.length c) ∧ OwnL Elt.ver 25 w.heap.size w.heap.size w' (.slice a l.length c) l ∧ Below w.heap.size w w'
set_option maxRecDepth 100000 in
set_option maxHeartbeats 2000000 in
theorem refCopyV_any (w : World) {S : Nat → Prop} {a : Option Addr} {n c : Nat} {l : List Ver} (hl : RdL Elt.ver S w (.slice a n c) l) (hn : l.length ≤ 1000000) (hx : ∀ x ∈ l, x.value.length ≤ 1000000) :
    Calls Try.prog 29 #[.slice a n c] w (CopyEnd w l) := by
  obtain ⟨rfl, hnc, hcm⟩ := hl.len
  have hlm : l.length ≤ 9223372036854775807 := by omega
  have q := Below.refl w.heap.size w
  go_enter Try.func29, Try.ntmps29
  go_upto_region 3 with (fail)
  go_loopw [3, 4] (fun ov iv wr => ∃ (k : Nat) (ad : Option Addr) (ko co : Nat), iv = .int .i64 k ∧ k ≤ l.length ∧ ov = .slice ad ko co ∧ OwnL Elt.ver 25 w.heap.size w.heap.size wr (.slice ad ko co) (l.take k) ∧ Below w.heap.size w wr)
    (fun _ i _ => l.length - (intOf i).toNat)
  case atStart => exact ⟨0, none, 0, 0, rfl, Nat.zero_le _, rfl, OwnL.nil _ _ _ _ _, q⟩
  case round =>
    clear q
    obtain ⟨k, ad, ko, co, rfl, hkl, rfl, hO, q⟩ := hrel
    rcases Nat.lt_or_ge k l.length with hlt | hge
    · obtain ⟨b, off, Av, Cv, rfl, hb, c0, c1, c2, hv, hi, hn1, hn2⟩ := (hl.below q).ver k hlt
      have hvl := hx _ (List.getElem_mem hlt)
      have hsn := Lib.hid (show l.take (k + 1) = l.take k ++ [l[k]] from List.take_succ_eq_append_getElem hlt)
      obtain ⟨x, ex⟩ : ∃ x, x = l[k] := ⟨_, rfl⟩
      rw [← ex] at c0 c1 c2 hv hi hn1 hvl hsn
      clear ex
      have hob : ∀ k', Value.ownBlock (.slice ad ko co) = some k' → k' < wr.heap.size := fun k' hk' => (hO.block_lt k' hk').2
      have hlen := hO.len
      rw [List.length_take] at hlen
      go_upto_region 5 with (fail)
      refine wp_region_sink2 (by kernel_rfl) (by kernel_rfl) (fun A B => A.grownBy B (Value.ownBlock (.slice ad ko co))) 20 (fun i => decide (i < 20)) (by kernel_rfl) (fun i => decide (i = 21)) (by kernel_rfl) (fun _ => false) (fun A => wr.grownBy A (Value.ownBlock (.slice ad ko co))) (fun A h => grown_below' h _) (fun A => grown_refl A _) (fun A B h k => grown_trans h (grown_below' k _)) (fun A B h k => grown_trans h k)
        [mEq (.slice ad ko co), mEq (.slice (some ⟨b, off, none⟩) l.length c), mEq (.int .i64 k), mEq (.pointer (some ⟨b, off + k * 3, none⟩)), mEq (.pointer (some ⟨b, off + k * 3, none⟩)), mEq (.int .i64 x.stamp), mEq (.slice (some ⟨b, off, none⟩) l.length c), mEq (.int .i64 k), mEq (.pointer (some ⟨b, off + k * 3, none⟩)), mEq (.pointer (some ⟨b, off + k * 3 + 1, none⟩)), mEq (.bool x.gone), mZeroB 5 wr.heap.size _ hob, mEq (.slice (some ⟨b, off, none⟩) l.length c), mEq (.int .i64 k), mEq (.pointer (some ⟨b, off + k * 3, none⟩)), mEq (.pointer (some ⟨b, off + k * 3 + 2, none⟩)), mEq (.slice Av x.value.length Cv), mOwnB 5 wr.heap.size _ hob x.value, mVer 5 wr.heap.size _ hob x, mVer1 5 25 wr.heap.size _ hob x]
        ⟨fun w' v => ∃ ad k6 c, v = .slice ad k6 c ∧ OwnL Elt.ver 25 w.heap.size w.heap.size w' (.slice ad k6 c) (l.take k ++ [x]), fun _ _ _ ⟨ad, k, c, h, ho⟩ hb => ⟨ad, k, c, h, ho.below hb⟩⟩
        (fun _ => ⟨fun w' v => ∃ ad k6 c, v = .slice ad k6 c ∧ OwnL Elt.ver 25 w.heap.size w.heap.size w' (.slice ad k6 c) (l.take k ++ [x]), fun _ _ _ ⟨ad, k, c, h, ho⟩ hb => ⟨ad, k, c, h, ho.below hb⟩⟩)
        ⟨?o0, ?o1, ?o2, ?o3, ?o4, ?o5, ?o6, ?o7, ?o8, ?o9, ?o10, ?o11, ?o12, ?o13, ?o14, ?o15, ?o16, ?o17, ?o18, ?o19, ?o20, ?o21, trivial⟩ ?fin
      case o0 =>
        refine GdOpM.plain rfl (fun A vs w' hF hT hR h0 hu hd => ?_)
        have e1 : A.eval (.tmp 3) = .slice ad ko co := (hT 3 21 (by simp) rfl).trans (hu (.inl rfl) 21 3 rfl rfl)
        exact BigFrame.wp_move _ rfl ⟨_, rfl, e1, Below.refl _ _⟩
      case o1 =>
        refine GdOpM.plain rfl (fun A vs w' hF hT hR h0 hu hd => ?_)
        have e1 : A.eval (.tmp 0) = .slice (some ⟨b, off, none⟩) l.length c := hF 0 rfl
        exact BigFrame.wp_move _ rfl ⟨_, rfl, e1, Below.refl _ _⟩
      case o2 =>
        refine GdOpM.plain rfl (fun A vs w' hF hT hR h0 hu hd => ?_)
        have e1 : A.eval (.tmp 4) = .int .i64 k := hF 4 rfl
        exact BigFrame.wp_move _ rfl ⟨_, rfl, e1, Below.refl _ _⟩
      case o3 =>
        refine GdOpM.plain rfl (fun A vs w' hF hT hR h0 hu hd => ?_)
        have e1 : A.eval (.tmp 12) = .slice (some ⟨b, off, none⟩) l.length c := (hT 12 1 (by simp) rfl).trans (hd ⟨1, .data⟩ (by simp) rfl)
        have e2 : A.eval (.tmp 13) = .int .i64 k := (hT 13 2 (by simp) rfl).trans (hd ⟨2, .data⟩ (by simp) rfl)
        exact wp_ixN (e := 25) rfl (by kernel_rfl) (by kernel_rfl) (e1) (e2) rfl (by omega) ⟨_, rfl, rfl, Below.refl _ _⟩
      case o4 =>
        refine GdOpM.plain rfl (fun A vs w' hF hT hR h0 hu hd => ?_)
        have e1 : A.eval (.tmp 14) = .pointer (some ⟨b, off + k * 3, none⟩) := (hT 14 3 (by simp) rfl).trans (hd ⟨3, .data⟩ (by simp) rfl)
        exact wp_fieldN verS rfl (e1) (by omega) ⟨_, rfl, rfl, Below.refl _ _⟩
      case o5 =>
        refine GdOpM.plain rfl (fun A vs w' hF hT hR h0 hu hd => ?_)
        have e1 : A.eval (.tmp 15) = .pointer (some ⟨b, off + k * 3, none⟩) := (hT 15 4 (by simp) rfl).trans (hd ⟨4, .data⟩ (by simp) rfl)
        exact wp_ld_int (k := .i64) rfl (e1) (by kernel_rfl) (((h0 (.inl rfl)).cell (p := ⟨b, off + k * 3, none⟩) (cell_lt c0)).trans c0) ⟨_, rfl, rfl, Below.refl _ _⟩
      case o6 =>
        refine GdOpM.plain rfl (fun A vs w' hF hT hR h0 hu hd => ?_)
        have e1 : A.eval (.tmp 0) = .slice (some ⟨b, off, none⟩) l.length c := hF 0 rfl
        exact BigFrame.wp_move _ rfl ⟨_, rfl, e1, Below.refl _ _⟩
      case o7 =>
        refine GdOpM.plain rfl (fun A vs w' hF hT hR h0 hu hd => ?_)
        have e1 : A.eval (.tmp 4) = .int .i64 k := hF 4 rfl
        exact BigFrame.wp_move _ rfl ⟨_, rfl, e1, Below.refl _ _⟩
      case o8 =>
        refine GdOpM.plain rfl (fun A vs w' hF hT hR h0 hu hd => ?_)
        have e1 : A.eval (.tmp 17) = .slice (some ⟨b, off, none⟩) l.length c := (hT 17 6 (by simp) rfl).trans (hd ⟨6, .data⟩ (by simp) rfl)
        have e2 : A.eval (.tmp 18) = .int .i64 k := (hT 18 7 (by simp) rfl).trans (hd ⟨7, .data⟩ (by simp) rfl)
        exact wp_ixN (e := 25) rfl (by kernel_rfl) (by kernel_rfl) (e1) (e2) rfl (by omega) ⟨_, rfl, rfl, Below.refl _ _⟩
      case o9 =>
        refine GdOpM.plain rfl (fun A vs w' hF hT hR h0 hu hd => ?_)
        have e1 : A.eval (.tmp 19) = .pointer (some ⟨b, off + k * 3, none⟩) := (hT 19 8 (by simp) rfl).trans (hd ⟨8, .data⟩ (by simp) rfl)
        exact wp_fieldN verS rfl (e1) (by omega) ⟨_, rfl, rfl, Below.refl _ _⟩
      case o10 =>
        refine GdOpM.plain rfl (fun A vs w' hF hT hR h0 hu hd => ?_)
        have e1 : A.eval (.tmp 20) = .pointer (some ⟨b, off + k * 3 + 1, none⟩) := (hT 20 9 (by simp) rfl).trans (hd ⟨9, .data⟩ (by simp) rfl)
        exact wp_ld_bool  rfl (e1) (by kernel_rfl) (((h0 (.inl rfl)).cell (p := ⟨b, off + k * 3 + 1, none⟩) (cell_lt c1)).trans c1) ⟨_, rfl, rfl, Below.refl _ _⟩
      case o11 =>
        refine GdOpM.plain rfl (fun A vs w' hF hT hR h0 hu hd => ?_)
        refine wp_build byP rfl [] (by kernel_rfl) rfl (by simp) (fun g k w2 h2 => ?_)
        obtain rfl : k = 0 := h2.len
        exact ⟨_, rfl, ⟨_, rfl, h2.2.to (h0 (.inl rfl)).size⟩, h2.1⟩
      case o12 =>
        refine GdOpM.plain rfl (fun A vs w' hF hT hR h0 hu hd => ?_)
        have e1 : A.eval (.tmp 0) = .slice (some ⟨b, off, none⟩) l.length c := hF 0 rfl
        exact BigFrame.wp_move _ rfl ⟨_, rfl, e1, Below.refl _ _⟩
      case o13 =>
        refine GdOpM.plain rfl (fun A vs w' hF hT hR h0 hu hd => ?_)
        have e1 : A.eval (.tmp 4) = .int .i64 k := hF 4 rfl
        exact BigFrame.wp_move _ rfl ⟨_, rfl, e1, Below.refl _ _⟩
      case o14 =>
        refine GdOpM.plain rfl (fun A vs w' hF hT hR h0 hu hd => ?_)
        have e1 : A.eval (.tmp 23) = .slice (some ⟨b, off, none⟩) l.length c := (hT 23 12 (by simp) rfl).trans (hd ⟨12, .data⟩ (by simp) rfl)
        have e2 : A.eval (.tmp 24) = .int .i64 k := (hT 24 13 (by simp) rfl).trans (hd ⟨13, .data⟩ (by simp) rfl)
        exact wp_ixN (e := 25) rfl (by kernel_rfl) (by kernel_rfl) (e1) (e2) rfl (by omega) ⟨_, rfl, rfl, Below.refl _ _⟩
      case o15 =>
        refine GdOpM.plain rfl (fun A vs w' hF hT hR h0 hu hd => ?_)
        have e1 : A.eval (.tmp 25) = .pointer (some ⟨b, off + k * 3, none⟩) := (hT 25 14 (by simp) rfl).trans (hd ⟨14, .data⟩ (by simp) rfl)
        exact wp_fieldN verS rfl (e1) (by omega) ⟨_, rfl, rfl, Below.refl _ _⟩
      case o16 =>
        refine GdOpM.plain rfl (fun A vs w' hF hT hR h0 hu hd => ?_)
        have e1 : A.eval (.tmp 26) = .pointer (some ⟨b, off + k * 3 + 2, none⟩) := (hT 26 15 (by simp) rfl).trans (hd ⟨15, .data⟩ (by simp) rfl)
        exact wp_ld_slice (e := 5) rfl (e1) (by kernel_rfl) (((h0 (.inl rfl)).cell (p := ⟨b, off + k * 3 + 2, none⟩) (cell_lt c2)).trans c2) ⟨_, rfl, rfl, Below.refl _ _⟩
      case o17 =>
        refine GdOpM.plain rfl (fun A vs w' hF hT hR h0 hu hd => ?_)
        have e2 : A.eval (.tmp 27) = .slice Av x.value.length Cv := (hT 27 16 (by simp) rfl).trans (hd ⟨16, .data⟩ (by simp) rfl)
        obtain ⟨g, q0, hZ⟩ := hd ⟨11, .data⟩ (by simp) rfl
        have e3 : A.eval (.tmp 22) = .slice (some g) 0 0 := (hT 22 11 (by simp) rfl).trans q0
        exact wp_append_zero byP rfl e3 hZ e2 (hv.below (h0 (.inl rfl))).rd (h0 (.inl rfl)).size (fun ad k cap w2 h2 hb => ⟨_, rfl, ⟨_, _, _, rfl, h2⟩, hb⟩) (by omega)
      case o18 =>
        refine GdOpM.plain rfl (fun A vs w' hF hT hR h0 hu hd => ?_)
        have e1 : A.eval (.tmp 16) = .int .i64 x.stamp := (hT 16 5 (by simp) rfl).trans (hd ⟨5, .data⟩ (by simp) rfl)
        have e2 : A.eval (.tmp 21) = .bool x.gone := (hT 21 10 (by simp) rfl).trans (hd ⟨10, .data⟩ (by simp) rfl)
        obtain ⟨ad5, k5, c5, q0, hZ⟩ := hd ⟨17, .data⟩ (by simp) rfl
        have e4 : A.eval (.tmp 28) = .slice ad5 k5 c5 := (hT 28 17 (by simp) rfl).trans q0
        exact wp_build3 verS rfl e1 e2 e4 rfl rfl rfl ⟨_, rfl, ⟨_, _, _, rfl, hZ⟩, Below.refl _ _⟩
      case o19 =>
        refine GdOpM.plain rfl (fun A vs w' hF hT hR h0 hu hd => ?_)
        obtain ⟨ad5, k5, c5, q0, hZ⟩ := hd ⟨18, .data⟩ (by simp) rfl
        have e4 : A.eval (.tmp 29) = .agg (verC x (.slice ad5 k5 c5)).toArray := (hT 29 18 (by simp) rfl).trans q0
        have hb1 : Below w'.heap.size w' (w'.alloc (.cells (verC x (.slice ad5 k5 c5)).toArray 25)) := (Below.refl _ _).alloc (Nat.le_refl _) _
        exact wp_buildOne verP rfl e4 rfl rfl (by omega) (by omega) ⟨_, rfl, ⟨_, ad5, k5, c5, rfl, (h0 (.inl rfl)).size, by simp only [World.alloc, Array.getElem?_push_size], hZ.below hb1⟩, hb1⟩
      case o20 =>
        refine GdOpM.plain rfl (fun A vs w' hF hT hR h0 hu hd => ?_)
        have e1 : A.eval (.tmp 11) = .slice ad ko co := (hT 11 0 (by simp) rfl).trans (hd ⟨0, .data⟩ (by simp) rfl)
        obtain ⟨b5, ad5, k5, c5, q0, hb5, hc5, hZ⟩ := hd ⟨19, .data⟩ (by simp) rfl
        have e4 : A.eval (.tmp 30) = .slice (some ⟨b5, 0, none⟩) 1 1 := (hT 30 19 (by simp) rfl).trans q0
        have hq := (h0 (.inr rfl))
        refine wp_appendL (E := Elt.ver) (ys := [x]) verP rfl e1 (hO.below hq) e4 (cells_at hc5) (Flat.single (E := Elt.ver) (S := fun k => wr.heap.size ≤ k ∧ k < w'.heap.size) ⟨_, rfl, hZ.rdS, hi⟩) (fun k hk => ⟨Nat.le_trans q.size hk.1, hk.2, fun e => by have := hob k e.symm; omega⟩) (Nat.le_trans q.size hq.size) (fun ad k cap w2 h2 hg h3 => ⟨_, rfl, ⟨_, _, _, rfl, h2⟩, hg⟩) (by rw [List.length_take]; simp; omega)
      case o21 =>
        refine GdOpM.plain rfl (fun A vs w' hF hT hR h0 hu hd => ?_)
        obtain ⟨ad5, k5, c5, q0, hZ⟩ := hd ⟨20, .data⟩ (by simp) rfl
        exact BigFrame.wp_assign _ rfl ⟨_, rfl, ⟨ad5, k5, c5, (hT 31 20 (by simp) rfl).trans q0, hZ⟩, Below.refl _ _⟩
      case fin =>
        intro vs w' hR hG
        obtain ⟨g11, e11, _⟩ := hG 11 (by decide) rfl
        obtain ⟨x17, y17, z17, e17, _⟩ := hG 17 (by decide) rfl
        obtain ⟨x18, y18, z18, e18, _⟩ := hG 18 (by decide) rfl
        obtain ⟨b19, x19, y19, z19, e19, _⟩ := hG 19 (by decide) rfl
        obtain ⟨x20, y20, z20, e20, _⟩ := hG 20 (by decide) rfl
        obtain ⟨x21, y21, z21, e21, hO2⟩ := hG 21 (by decide) rfl
        have e0 : vs 0 = .slice ad ko co := hG 0 (by decide) rfl
        have e1 : vs 1 = .slice (some ⟨b, off, none⟩) l.length c := hG 1 (by decide) rfl
        have e2 : vs 2 = .int .i64 k := hG 2 (by decide) rfl
        have e3 : vs 3 = .pointer (some ⟨b, off + k * 3, none⟩) := hG 3 (by decide) rfl
        have e4 : vs 4 = .pointer (some ⟨b, off + k * 3, none⟩) := hG 4 (by decide) rfl
        have e5 : vs 5 = .int .i64 x.stamp := hG 5 (by decide) rfl
        have e6 : vs 6 = .slice (some ⟨b, off, none⟩) l.length c := hG 6 (by decide) rfl
        have e7 : vs 7 = .int .i64 k := hG 7 (by decide) rfl
        have e8 : vs 8 = .pointer (some ⟨b, off + k * 3, none⟩) := hG 8 (by decide) rfl
        have e9 : vs 9 = .pointer (some ⟨b, off + k * 3 + 1, none⟩) := hG 9 (by decide) rfl
        have e10 : vs 10 = .bool x.gone := hG 10 (by decide) rfl
        have e12 : vs 12 = .slice (some ⟨b, off, none⟩) l.length c := hG 12 (by decide) rfl
        have e13 : vs 13 = .int .i64 k := hG 13 (by decide) rfl
        have e14 : vs 14 = .pointer (some ⟨b, off + k * 3, none⟩) := hG 14 (by decide) rfl
        have e15 : vs 15 = .pointer (some ⟨b, off + k * 3 + 2, none⟩) := hG 15 (by decide) rfl
        have e16 : vs 16 = .slice Av x.value.length Cv := hG 16 (by decide) rfl
        simp only [putAll, e0, e1, e2, e3, e4, e5, e6, e7, e8, e9, e10, e12, e13, e14, e15, e16, e11, e17, e18, e19, e20, e21]
        clear hG e0 e1 e2 e3 e4 e5 e6 e7 e8 e9 e10 e12 e13 e14 e15 e16 e11 e17 e18 e19 e20 e21
        go_simp
        have q2 : Below w.heap.size w w' := q.grown hR q.size (fun k' e => (hO.block_lt k' e).1)
        rw [← hsn.out] at hO2
        clear hR hO q
        go_wp2_with fail
        go_roundw
        case rel => exact ⟨k + 1, _, _, _, by go_num, by omega, rfl, hO2, q2⟩
        case measure => simp [intOf]; omega
    · obtain rfl : k = l.length := by omega
      rw [List.take_length] at hO
      obtain rfl := hO.len
      go_wp2_with fail
      go_ret
      exact ⟨ad, co, rfl, hO, q⟩
end Go.Proofs.Ytemdcpajcaaphaa
