/-
  TEXTS OF ONE PROOF, merged: TreJ.
-/
import Derived.BigQuiet
import Derived.Deep.Cut
import Derived.Deep.QuietTactic
import Derived.Lib.Hide
import Derived.Shelf.Abstract
import Derived.Test.YtdegjkfjaklkjaaProg
import Derived.WalkKit
import Derived.WalkLawsBesides
import Derived.WalkSpells
import Derived.Test.YtdegjkfjaklkjaaMe1
import Derived.Test.YtdegjkfjaklkjaaMe2
import Derived.Test.YtdegjkfjaklkjaaMe3
import Derived.Test.YtdegjkfjaklkjaaMe4
import Derived.Test.YtdegjkfjaklkjaaMe8
import Derived.Test.YtdegjkfjaklkjaaMe13
import Derived.Test.YtdegjkfjaklkjaaMe15
namespace Go.Proofs.Ytdegjkfjaklkjaa
open Go.RowKit
def sgVf (B : Nat) (x : List Ver) : SG := ⟨fun w v => ∃ a c, v = .tuple #[.slice a x.length c, .bool true] ∧ RdL Elt.ver (fun j => B ≤ j ∧ j < w.heap.size) w (.slice a x.length c) x, fun _ _ _ ⟨a, c, h, hr⟩ hb => ⟨a, c, h, (hr.below hb).weak (fun _ hk => ⟨hk.1, Nat.lt_of_lt_of_le hk.2 hb.size⟩)⟩⟩
def sgVg (B : Nat) (x : List Ver) : SG := ⟨fun w v => ∃ a c, v = .slice a x.length c ∧ RdL Elt.ver (fun j => B ≤ j ∧ j < w.heap.size) w (.slice a x.length c) x, fun _ _ _ ⟨a, c, h, hr⟩ hb => ⟨a, c, h, (hr.below hb).weak (fun _ hk => ⟨hk.1, Nat.lt_of_lt_of_le hk.2 hb.size⟩)⟩⟩
theorem FindEnd.yes {w w' : World} {r : Option (List Ver)} {x : List Ver} {e : Ending} (h : r = some x) (h2 : FindEnd w r e w') : ∃ a c, e = .returned (.tuple #[.slice a x.length c, .bool true]) ∧ RdL Elt.ver (fun k => w.heap.size ≤ k ∧ k < w'.heap.size) w' (.slice a x.length c) x ∧ Below w.heap.size w w' := by
  subst h; exact h2
theorem FindEnd.no {w w' : World} {r : Option (List Ver)} {e : Ending} (h : r = none) (h2 : FindEnd w r e w') : ∃ a c, e = .returned (.tuple #[.slice a 0 c, .bool false]) ∧ RdL Elt.ver (fun k => w.heap.size ≤ k ∧ k < w'.heap.size) w' (.slice a 0 c) [] ∧ Below w.heap.size w w' := by
  subst h; exact h2
theorem NextEnd.yes {w w' : World} {r : Option (List UInt8)} {x : List UInt8} {e : Ending} (h : r = some x) (h2 : NextEnd w r e w') : ∃ a c, e = .returned (.tuple #[.slice a x.length c, .bool true]) ∧ RdS (fun k => w.heap.size ≤ k ∧ k < w'.heap.size) w' (.slice a x.length c) x ∧ Below w.heap.size w w' := by
  subst h; exact h2
theorem NextEnd.no {w w' : World} {r : Option (List UInt8)} {e : Ending} (h : r = none) (h2 : NextEnd w r e w') : ∃ a c, e = .returned (.tuple #[.slice a 0 c, .bool false]) ∧ RdS (fun k => w.heap.size ≤ k ∧ k < w'.heap.size) w' (.slice a 0 c) [] ∧ Below w.heap.size w w' := by
  subst h; exact h2
theorem prN_key {n : Nd} {p : Pr} (h : p ∈ prN n) : p.key.length ≤ 16 := by
  unfold prN at h
  split at h
  · rename_i hk; exact (((okP_iff _).1 hk.2).1 p h).2.2
  · cases h
def LawPairsEnd (w : World) (n : Nd) (e : Ending) (w' : World) : Prop := ∃ a k c, e = .returned (.slice a k c) ∧ RdL Elt.pair (fun _ => True) w' (.slice a k c) (prN n) ∧ Below w.heap.size w w'
set_option maxRecDepth 100000 in
set_option maxHeartbeats 4000000 in
theorem lawPairs_any (hC : TreC) (w : World) {S : Nat → Prop} {v : Value} {n : Nd} (hr : RdN S w v n) (hft : fitN n) (hle : (prN n).length ≤ 1000000) :
    Calls Try.prog 20 #[v] w (LawPairsEnd w n) := by
  have hr0 := hr
  obtain ⟨a1, c1, a2, c2, a3, c3, rfl, r1, r2, r3⟩ := hr
  have hT := TriV.new w 26 (.slice a1 n.keys.length c1) (.slice a2 n.chains.length c2) (.slice a3 n.kids.length c3)
  have q : Below w.heap.size w (w.alloc (.cells #[.slice a1 n.keys.length c1, .slice a2 n.chains.length c2, .slice a3 n.kids.length c3] 26)) := (Below.refl _ _).alloc (Nat.le_refl _) _
  go_enter Try.func20, Try.ntmps20
  go_upto_region 2 with (fail)
  generalize w.alloc (.cells #[.slice a1 n.keys.length c1, .slice a2 n.chains.length c2, .slice a3 n.kids.length c3] 26) = W at *
  have t0 := hT.cell0
  have t1 := hT.cell1
  have t2 := hT.cell2
  have hWs := q.size
  go_wp2_with fail
  refine (hC.keys _ (hr0.below q) hft).mono ?_
  rintro e w1 ⟨ak, ck, rfl, hK, hb⟩
  replace q := q.trans (hb.mono q.size)
  replace hT := hT.below hb hT.lt
  clear hb t0 t1 t2
  have t0 := hT.cell0
  have t1 := hT.cell1
  have t2 := hT.cell2
  have hmem := Lib.hid (fun p (h : p ∈ prN n) => prN_key h)
  have hsrt := Lib.hid (prN_srt n)
  have hfin := Lib.hid (fun k (a : Option Addr) (m c : Nat) (W : World) (h1 : Below w.heap.size w W) (h2 : RdS (fun _ => True) W (.slice a m c) k) h3 => hC.find W (hr0.below h1) hft h2 h3)
  have hKS : ∀ j, (w.heap.size ≤ j ∧ j < w1.heap.size) → (w.heap.size ≤ j ∧ j < w1.heap.size) := fun _ h => h
  replace hK := hK.weak (S' := fun j => w.heap.size ≤ j ∧ j < w1.heap.size) fun j hj => ⟨Nat.le_trans hWs hj.1, hj.2⟩
  rw [List.length_map] at hK ⊢
  have HPL := Lib.hid (Eq.refl (prN n))
  generalize hPL : prN n = L at hle hmem hsrt hfin hK HPL ⊢
  replace HPL := Lib.hid hPL
  clear hPL
  have hLm : L.length ≤ 9223372036854775807 := by omega
  clear t0 t1 t2
  go_upto_region 4 with (fail)
  go_loopw [3, 5] (fun ov iv wr => ∃ (k : Nat) (ad : Option Addr) (ko co : Nat), iv = .int .i64 k ∧ k ≤ L.length ∧ ov = .slice ad ko co ∧ OwnL Elt.pair 41 w1.heap.size 0 wr (.slice ad ko co) (L.take k) ∧ TriV wr w.heap.size 26 (.slice a1 n.keys.length c1) (.slice a2 n.chains.length c2) (.slice a3 n.kids.length c3) ∧ Below w1.heap.size w1 wr) (fun _ i _ => L.length - (intOf i).toNat)
  case atStart => exact ⟨0, none, 0, 0, rfl, Nat.zero_le _, rfl, OwnL.nil _ _ _ _ _, hT, Below.refl _ _⟩
  case round =>
    have hT1 := hT.lt
    clear hT
    obtain ⟨k, ad, ko, co, rfl, hkl, rfl, hO, bx, q2⟩ := hrel
    rcases Nat.lt_or_ge k L.length with hlt | hge
    · have hkm : k < (L.map (·.key)).length := by rw [List.length_map]; exact hlt
      have hby := (hK.below q2).byt k hkm
      rw [List.getElem_map] at hby
      obtain ⟨b, off, Ak, C, rfl, c0, hky⟩ := hby
      obtain ⟨p, ep⟩ : ∃ p, p = L[k] := ⟨_, rfl⟩
      rw [← ep] at c0 hky
      have hpm : p ∈ L := by rw [ep]; exact List.getElem_mem hlt
      have hp16 := hmem.out p hpm
      have hff := Lib.hid (findP_mem hsrt.out hpm)
      have hsn := Lib.hid (show L.take (k + 1) = L.take k ++ [p] by rw [ep]; exact List.take_succ_eq_append_getElem hlt)
      have HEP := Lib.hid ep
      have hkl2 := hky.len
      unfold maxLen at hkl2
      have c0' : wr.cell? ⟨b, off + k * 1, none⟩ = some (.slice Ak p.key.length C) := by rw [Nat.mul_one]; exact c0
      clear ep c0
      go_upto_region 6 with (fail)
      refine wp_region_gsg (by kernel_rfl) (by kernel_rfl) [sgEq (.agg #[.slice a1 n.keys.length c1, .slice a2 n.chains.length c2, .slice a3 n.kids.length c3]), sgEq (.slice (some ⟨b, off, none⟩) L.length ck), sgEq (.int .i64 k), sgEq (.pointer (some ⟨b, off + k * 1, none⟩)), sgEq (.slice Ak p.key.length C), sgVf wr.heap.size p.chain, sgVf wr.heap.size p.chain, sgVg wr.heap.size p.chain, sgEq (.bool true), sgVg wr.heap.size p.chain, sgEq (.bool true)]
        ⟨?o0, ?o1, ?o2, ?o3, ?o4, ?o5, ?o6, ?o7, ?o8, ?o9, ?o10, trivial⟩ ?fin
      case o0 =>
        refine GdOp.plain rfl (fun A vs w' hF hT hb hd => ?_)
        have e1 : A.eval (.tmp 1) = .pointer (some ⟨w.heap.size, 0, none⟩) := hF 1 rfl
        have hb3 := bx.below hb bx.lt
        exact wp_load3 ndS rfl e1 hb3.cell0 hb3.cell1 hb3.cell2 ⟨_, rfl, rfl, Below.refl _ _⟩
      case o1 =>
        refine GdOp.plain rfl (fun A vs w' hF hT hb hd => ?_)
        have e1 : A.eval (.tmp 4) = .slice (some ⟨b, off, none⟩) L.length ck := hF 4 rfl
        exact BigFrame.wp_move _ rfl ⟨_, rfl, e1, Below.refl _ _⟩
      case o2 =>
        refine GdOp.plain rfl (fun A vs w' hF hT hb hd => ?_)
        have e1 : A.eval (.tmp 5) = .int .i64 k := hF 5 rfl
        exact BigFrame.wp_move _ rfl ⟨_, rfl, e1, Below.refl _ _⟩
      case o3 =>
        refine GdOp.plain rfl (fun A vs w' hF hT hb hd => ?_)
        have e1 : A.eval (.tmp 18) = .slice (some ⟨b, off, none⟩) L.length ck := (hT 18 1 (by simp) rfl).trans (hd ⟨1, .data⟩ (by simp) rfl)
        have e2 : A.eval (.tmp 19) = .int .i64 k := (hT 19 2 (by simp) rfl).trans (hd ⟨2, .data⟩ (by simp) rfl)
        exact wp_ixN (e := 27) rfl (by kernel_rfl) (by kernel_rfl) (e1) (e2) rfl (by omega) ⟨_, rfl, rfl, Below.refl _ _⟩
      case o4 =>
        refine GdOp.plain rfl (fun A vs w' hF hT hb hd => ?_)
        have e1 : A.eval (.tmp 20) = .pointer (some ⟨b, off + k * 1, none⟩) := (hT 20 3 (by simp) rfl).trans (hd ⟨3, .data⟩ (by simp) rfl)
        exact wp_ld_slice (e := 5) rfl e1 (by kernel_rfl) ((hb.cell (p := ⟨b, off + k * 1, none⟩) (cell_lt c0')).trans c0') ⟨_, rfl, rfl, Below.refl _ _⟩
      case o5 =>
        refine GdOp.plain rfl (fun A vs w' hF hT hb hd => ?_)
        have e1 : A.eval (.tmp 17) = .agg #[.slice a1 n.keys.length c1, .slice a2 n.chains.length c2, .slice a3 n.kids.length c3] := (hT 17 0 (by simp) rfl).trans (hd ⟨0, .data⟩ (by simp) rfl)
        have e2 : A.eval (.tmp 21) = .slice Ak p.key.length C := (hT 21 4 (by simp) rfl).trans (hd ⟨4, .data⟩ (by simp) rfl)
        refine wp_callFn rfl (enters_of Try.func15 (by kernel_rfl) rfl) (args := #[.agg #[.slice a1 n.keys.length c1, .slice a2 n.chains.length c2, .slice a3 n.kids.length c3], .slice Ak p.key.length C]) (by simp [e1, e2]) ((hfin.out p.key Ak p.key.length C w' (q.trans ((q2.trans (hb.mono q2.size)).mono q.size)) ((hky.below hb).weak fun _ _ => trivial) (by omega)).mono ?_)
        rintro e w2 hE
        obtain ⟨a5, c5, rfl, r5, hb2⟩ := FindEnd.yes hff.out hE
        exact ⟨_, rfl, _, rfl, ⟨a5, c5, rfl, r5.weak fun j hj => ⟨Nat.le_trans hb.size hj.1, hj.2⟩⟩, hb2⟩
      case o6 =>
        refine GdOp.plain rfl (fun A vs w' hF hT hb hd => ?_)
        obtain ⟨a5, c5, q5, r5⟩ := hd ⟨5, .data⟩ (by simp) rfl
        exact BigFrame.wp_move _ rfl ⟨_, rfl, ⟨a5, c5, (hT 22 5 (by simp) rfl).trans q5, r5⟩, Below.refl _ _⟩
      case o7 =>
        refine GdOp.plain rfl (fun A vs w' hF hT hb hd => ?_)
        obtain ⟨a5, c5, q5, r5⟩ := hd ⟨6, .data⟩ (by simp) rfl
        exact wp_ex rfl ((hT 16 6 (by simp) rfl).trans q5) rfl ⟨_, rfl, ⟨a5, c5, rfl, r5⟩, Below.refl _ _⟩
      case o8 =>
        refine GdOp.plain rfl (fun A vs w' hF hT hb hd => ?_)
        obtain ⟨a5, c5, q5, r5⟩ := hd ⟨6, .data⟩ (by simp) rfl
        exact wp_ex rfl ((hT 16 6 (by simp) rfl).trans q5) rfl ⟨_, rfl, rfl, Below.refl _ _⟩
      case o9 =>
        refine GdOp.plain rfl (fun A vs w' hF hT hb hd => ?_)
        obtain ⟨a5, c5, q5, r5⟩ := hd ⟨7, .data⟩ (by simp) rfl
        exact BigFrame.wp_assign _ rfl ⟨_, rfl, ⟨a5, c5, (hT 23 7 (by simp) rfl).trans q5, r5⟩, Below.refl _ _⟩
      case o10 =>
        refine GdOp.plain rfl (fun A vs w' hF hT hb hd => ?_)
        have e1 : A.eval (.tmp 24) = .bool true := (hT 24 8 (by simp) rfl).trans (hd ⟨8, .data⟩ (by simp) rfl)
        exact BigFrame.wp_assign _ rfl ⟨_, rfl, e1, Below.refl _ _⟩
      case fin =>
        intro vs w' hb hG
        have e0 : vs 0 = .agg #[.slice a1 n.keys.length c1, .slice a2 n.chains.length c2, .slice a3 n.kids.length c3] := hG 0 (by decide)
        have e1 : vs 1 = .slice (some ⟨b, off, none⟩) L.length ck := hG 1 (by decide)
        have e2 : vs 2 = .int .i64 k := hG 2 (by decide)
        have e3 : vs 3 = .pointer (some ⟨b, off + k * 1, none⟩) := hG 3 (by decide)
        have e4 : vs 4 = .slice Ak p.key.length C := hG 4 (by decide)
        obtain ⟨x5, y5, e5, _⟩ := hG 5 (by decide)
        obtain ⟨x6, y6, e6, _⟩ := hG 6 (by decide)
        obtain ⟨x7, y7, e7, _⟩ := hG 7 (by decide)
        have e8 : vs 8 = .bool true := hG 8 (by decide)
        obtain ⟨x9, y9, e9, hX⟩ := hG 9 (by decide)
        have e10 : vs 10 = .bool true := hG 10 (by decide)
        simp only [putAll, e0, e1, e2, e3, e4, e5, e6, e7, e8, e9, e10]
        clear hG e0 e1 e2 e3 e4 e5 e6 e7 e8 e9 e10
        go_simp
        have bx2 := bx.below hb bx.lt
        have q3 := q2.trans (hb.mono q2.size)
        have hO2 := hO.below hb
        have hob : ∀ j, Value.ownBlock (.slice ad ko co) = some j → w1.heap.size ≤ j ∧ j < wr.heap.size := fun j h => hO.block_lt j h
        have hwr := hb.size
        clear bx hO hb hky c0'
        have hby := (hK.below q3).byt k hkm
        rw [List.getElem_map, ← HEP.out] at hby
        obtain ⟨bb, offb, Ak, C, e', c0, hky⟩ := hby
        injection e' with e'; injection e' with e1 e2; subst e1; subst e2
        have hbA := (Below.refl w'.heap.size w').alloc (Nat.le_refl _) (.cells #[.slice Ak p.key.length C, .slice x9 p.chain.length y9] 41)
        go_wp2_with (first
          | (at_builtin; refine wpList_appendL (E := Elt.pair) (ys := [p]) (ns := [.slice Ak p.key.length C, .slice x9 p.chain.length y9]) prP rfl rfl rfl (hO2.below hbA) rfl (cells_new _ [.slice Ak p.key.length C, .slice x9 p.chain.length y9] _) (Flat.single (E := Elt.pair) (S := fun j => (w.heap.size ≤ j ∧ j < w1.heap.size) ∨ (wr.heap.size ≤ j ∧ j < w'.heap.size)) ⟨_, _, rfl, (hky.below hbA).weak (fun j hj => .inl (hKS j hj)), (hX.below hbA).weak (fun j hj => .inr hj)⟩) (fun j hj => ⟨Nat.zero_le _, by have := hbA.size; have := q3.size; rcases hj with hj | hj <;> omega, fun e => by have h5 := hob j e.symm; rcases hj with hj | hj <;> omega⟩) (Nat.le_trans q3.size hbA.size) ?_ (by simp; omega); intro ad2 k2 co2 w2 hO3 hg2 h32)
          | fail)
        have bx3 := (hg2.block _ (bx2.below hbA bx2.lt).lt (fun e => by have := hob _ e.symm; omega)).trans (bx2.below hbA bx2.lt)
        have q4 := (q3.trans (hbA.mono q3.size)).grown hg2 (Nat.le_trans q3.size hbA.size) (fun j e => (hob j e).1)
        rw [← hsn.out] at hO3
        go_roundw
        case rel => exact ⟨k + 1, _, _, _, by go_num, by omega, rfl, hO3, bx3, q4⟩
        case measure => simp [intOf]; omega
    · obtain rfl : k = L.length := by omega
      rw [List.take_length] at hO
      go_wp2_with fail
      go_ret
      refine ⟨_, _, _, rfl, ?_, q.trans (q2.mono q.size)⟩
      rw [HPL.out]
      exact hO.rdL.weak fun _ _ => trivial
end Go.Proofs.Ytdegjkfjaklkjaa
