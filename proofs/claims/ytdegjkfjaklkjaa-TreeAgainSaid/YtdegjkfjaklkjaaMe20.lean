/-
  TEXTS OF ONE PROOF, merged: TreeAgainW.
-/
import Derived.BigQuiet
import Derived.Deep.Cut
import Derived.Deep.QuietTactic
import Derived.Lib.Hide
import Derived.Shelf.Abstract
import Derived.Test.YtdegjkfjaklkjaaProg
import Derived.WalkKit
import Derived.WalkLawsBesides
import Derived.WalkSpells
import Derived.Test.YtdegjkfjaklkjaaMe1
import Derived.Test.YtdegjkfjaklkjaaMe2
import Derived.Test.YtdegjkfjaklkjaaMe3
import Derived.Test.YtdegjkfjaklkjaaMe4
import Derived.Test.YtdegjkfjaklkjaaMe8
import Derived.Test.YtdegjkfjaklkjaaMe13
import Derived.Test.YtdegjkfjaklkjaaMe14
import Derived.Test.YtdegjkfjaklkjaaMe16
import Derived.Test.YtdegjkfjaklkjaaMe17
import Derived.Test.YtdegjkfjaklkjaaMe18
import Derived.Test.YtdegjkfjaklkjaaMe19
namespace Go.Proofs.Ytdegjkfjaklkjaa
open Go.RowKit
def AgnR (w : World) (ba bb : Nat) (f g : Nat → UInt8) (N : Nat) (v : Value) (wr : World) : Prop :=
  ∃ (i : Nat) (na nb : Nd) (x y z x' y' z' : Value), v = .int .i64 (i : Int) ∧ i ≤ N ∧ TriV wr ba 26 x y z ∧ TriV wr bb 26 x' y' z' ∧ RdN (fun k => k ≠ ba ∧ k ≠ bb) wr (.agg #[x, y, z]) na ∧ RdN (fun k => k ≠ ba ∧ k ≠ bb) wr (.agg #[x', y', z']) nb ∧
    FPk na f i ∧ FPk nb g i ∧ Below w.heap.size w wr
set_option maxRecDepth 100000 in
set_option maxHeartbeats 16000000 in
theorem TreeAgain_w (hC : TreC) (w : World) {La : Option Addr} {ln lc : Nat} {l : List UInt8} (hl : Rd w.heap.size w (.slice La ln lc) l) {tz : Int} (ht0 : 0 ≤ tz) (ht9 : tz < 256) :
    Calls Try.prog 7 #[.slice La ln lc, .int .u8 tz] w fun e w' => e = .returned (.bool true) ∧ Below w.heap.size w w' := by
  have ht1 : tz ≤ 255 := by omega
  clear ht9
  obtain ⟨tn, rfl⟩ : ∃ tn : Nat, tz = (tn : Int) := ⟨tz.toNat, by omega⟩
  obtain ⟨rfl, hlc, hlm⟩ := hl.len
  have hll : l.length ≤ 9223372036854775807 := by unfold maxLen at hlm; omega
  obtain ⟨N, hN⟩ : ∃ N, N = min l.length 40 := ⟨_, rfl⟩
  have hmin : (if (40 : Int) < (l.length : Int) then (40 : Int) else (l.length : Int)) = (N : Int) := by split <;> omega
  have hN40 : N ≤ 40 := by omega
  have hNl : N ≤ l.length := by omega
  obtain ⟨f, hf⟩ : ∃ f : Nat → UInt8, f = fun j => l.getD j 0 := ⟨_, rfl⟩
  obtain ⟨g, hg⟩ : ∃ g : Nat → UInt8, g = fun j => f ((j + tn) % N) := ⟨_, rfl⟩
  have eO : ∀ args w, (callFunc 34 args).run Try.prog w = .ok (.enter 34 args) w := enters_of Try.func34 (by kernel_rfl) rfl
  have eP : ∀ args w, (callFunc 28 args).run Try.prog w = .ok (.enter 28 args) w := enters_of Try.func28 (by kernel_rfl) rfl
  have eD : ∀ args w, (callFunc 29 args).run Try.prog w = .ok (.enter 29 args) w := enters_of Try.func29 (by kernel_rfl) rfl
  have q := Below.refl w.heap.size w
  go_enter Try.func7, Try.ntmps7
  go_wp2_with fail
  refine (hC.awake _).mono ?_
  rintro e w1 ⟨rfl, hb⟩
  replace q := q.trans (hb.mono q.size)
  clear hb
  go_upto_region 4 with (first | (refine wpList_allocT rfl rfl ?_; intro w2 hb2 htb) | fail)
  rename_i wA hbA htA _ _
  have q1 := q.trans (hbA.mono q.size)
  have q2 := q1.trans (hb2.mono q1.size)
  have htA2 := htA.below hb2 htA.lt
  have hne : w1.heap.size ≠ wA.heap.size := by have := htA.lt; omega
  have hza : w.heap.size ≤ w1.heap.size := q.size
  have hzb : w.heap.size ≤ wA.heap.size := q1.size
  obtain ⟨ba, hba⟩ : ∃ ba, ba = w1.heap.size := ⟨_, rfl⟩
  obtain ⟨bb, hbb⟩ : ∃ bb, bb = wA.heap.size := ⟨_, rfl⟩
  rw [← hba, ← hbb] at hne
  rw [← hba] at htA2 hza
  rw [← hbb] at htb hzb
  have r0 : AgnR w ba bb f g N (.int .i64 ((0 : Nat) : Int)) w2 := ⟨0, noNd, noNd, _, _, _, _, _, _, rfl, Nat.zero_le _, htA2, htb, rdE _ _, rdE _ _, FPk.start _, FPk.start _, q2⟩
  rw [← hba, ← hbb]
  clear q q1 q2 htA htA2 htb hbA hb2 hba hbb
  replace hN := Lib.hid hN
  replace hf := Lib.hid hf
  replace hg := Lib.hid hg
  replace hmin := Lib.hid hmin
  go_loopw [8] (fun v wr => AgnR w ba bb f g N v wr) (fun v _ => N - (intOf v).toNat)
  case atStart => exact r0
  case round =>
    obtain ⟨i, na, nb, x, y, z, x', y', z', rfl, hil, hTA, hTB, hA, hB, fA, fB, q⟩ := hrel
    clear r0
    obtain ⟨XA1, YA1, XA2, YA2, XA3, YA3, e3, _, _, _⟩ := id hA
    injection e3 with e3
    injection e3 with e3
    injection e3 with e4 e3
    injection e3 with e5 e3
    injection e3 with e6 _
    subst e4 e5 e6
    obtain ⟨XB1, YB1, XB2, YB2, XB3, YB3, e3, _, _, _⟩ := id hB
    injection e3 with e3
    injection e3 with e3
    injection e3 with e4 e3
    injection e3 with e5 e3
    injection e3 with e6 _
    subst e4 e5 e6
    have fitA : fitN na := fA.fit (by omega)
    have fitB : fitN nb := fB.fit (by omega)
    rcases Nat.lt_or_ge i N with hlt | hge
    · have hmin' := hmin.out
      obtain ⟨b, off, ea, hbB, hcl⟩ := hl.cellAt i (by omega)
      subst ea
      have d1 : decide ((i : Int) < (l.length : Int)) = true := decide_eq_true (by omega)
      have d2 : decide ((i : Int) < 40) = true := decide_eq_true (by omega)
      have hci : w.cell? ⟨b, off + i, none⟩ = some (.int .u8 ((f i).toNat : Int)) := by
        rw [hcl i (by omega), hf.out]
        simp [List.getD_eq_getElem?_getD, List.getElem?_eq_getElem (show i < l.length by omega)]
      have hc256 : ((f i).toNat : Int) ≤ 255 := by have := (f i).toNat_lt; omega
      have tA0 := hTA.cell0
      have tA1 := hTA.cell1
      have tA2 := hTA.cell2
      go_upto_region 7 with (fail)
      refine wp_region_setl (K := fun _ _ => True) (by kernel_rfl) (by kernel_rfl) [5, 12, 13, 14, 15, 16, 17, 18] (by kernel_rfl) [lEq (.agg #[.slice XA1 na.keys.length YA1, .slice XA2 na.chains.length YA2, .slice XA3 na.kids.length YA3]), lEq (.slice (some ⟨b, off, none⟩) l.length lc), lEq (.int .i64 (i : Int)), lEq (.pointer (some ⟨b, off + i * 1, none⟩)), lEq (.int .u8 ((f i).toNat : Int)), lAny, lEq (.slice (some ⟨b, off, none⟩) l.length lc), lEq (.int .i64 (i : Int)), lEq (.pointer (some ⟨b, off + i * 1, none⟩)), lEq (.int .u8 ((f i).toNat : Int)), lEq (.int .i64 ((f i).toNat : Int)), lEq (.int .i64 (1 + ((f i).toNat : Int))), lAny, lAny, lAny, lAny, lAny, lAny, lAny, lEq (.int .i64 (0 : Nat))]
        (CbK (bv ([f i])).toArray 5 (NodeR (PutIs na [f i] (valK (f i)))) zNode NodeB (KeyW ([f i])) (VerW (valK (f i))) wr) (CbK.more (stays (PutIs na [f i] (valK (f i))) ([f i]) (valK (f i)))) (CbS.start _)
        ⟨?o0, ?o1, ?o2, ?o3, ?o4, ?o5, ?o6, ?o7, ?o8, ?o9, ?o10, ?o11, ?o12, ?o13, ?o14, ?o15, ?o16, ?o17, ?o18, ?o19, trivial⟩ ?fin
      case o0 =>
        refine StOp.free rfl (by kernel_rfl) (fun A va D w' hF hT hN hE hd hu hg => ?_)
        have e1 : A.eval (.tmp 6) = .pointer (some ⟨ba, 0, none⟩) := hF 6 rfl
        exact wp_load3 ndS rfl (e1) ((hTA.below (CbK.below hE) hTA.lt).cell0) ((hTA.below (CbK.below hE) hTA.lt).cell1) ((hTA.below (CbK.below hE) hTA.lt).cell2) ⟨_, rfl, rfl, Below.refl _ _⟩
      case o1 =>
        refine StOp.free rfl (by kernel_rfl) (fun A va D w' hF hT hN hE hd hu hg => ?_)
        have e1 : A.eval (.tmp 0) = .slice (some ⟨b, off, none⟩) l.length lc := hF 0 rfl
        exact BigFrame.wp_move _ rfl ⟨_, rfl, e1, Below.refl _ _⟩
      case o2 =>
        refine StOp.free rfl (by kernel_rfl) (fun A va D w' hF hT hN hE hd hu hg => ?_)
        have e1 : A.eval (.tmp 8) = .int .i64 (i : Int) := hF 8 rfl
        exact BigFrame.wp_move _ rfl ⟨_, rfl, e1, Below.refl _ _⟩
      case o3 =>
        refine StOp.free rfl (by kernel_rfl) (fun A va D w' hF hT hN hE hd hu hg => ?_)
        have e1 : A.eval (.tmp 37) = .slice (some ⟨b, off, none⟩) l.length lc := (hT 37 1 (by simp) rfl).trans (hg ⟨1, .data⟩ (by simp) rfl rfl)
        have e2 : A.eval (.tmp 38) = .int .i64 (i : Int) := (hT 38 2 (by simp) rfl).trans (hg ⟨2, .data⟩ (by simp) rfl rfl)
        exact wp_ixN (e := 5) rfl (by kernel_rfl) (by kernel_rfl) (e1) (e2) rfl (by omega) ⟨_, rfl, rfl, Below.refl _ _⟩
      case o4 =>
        refine StOp.free rfl (by kernel_rfl) (fun A va D w' hF hT hN hE hd hu hg => ?_)
        have e1 : A.eval (.tmp 39) = .pointer (some ⟨b, off + i * 1, none⟩) := (hT 39 3 (by simp) rfl).trans (hg ⟨3, .data⟩ (by simp) rfl rfl)
        exact wp_ld_int (k := .u8) rfl (e1) (by kernel_rfl) ((((q.trans ((CbK.below hE).mono q.size)).cell (p := ⟨b, off + i * 1, none⟩) hbB).trans (by simpa using hci))) ⟨_, rfl, rfl, Below.refl _ _⟩
      case o5 =>
        refine StOp.set rfl (by kernel_rfl) (fun A va D w' hF hT hN hE hd hu hg => ?_)
        have e1 : A.eval (.tmp 40) = .int .u8 ((f i).toNat : Int) := (hT 40 4 (by simp) rfl).trans (hg ⟨4, .data⟩ (by simp) rfl rfl)
        have hE2 := hE
        simp only [told, List.map_cons, List.map_nil, hN, Bool.false_eq_true, if_false] at hE2
        refine wp_build byP rfl [f i] (by simp [bv, e1]) rfl (by simp) (fun g2 k2 w2 hf2 => ?_)
        obtain rfl : k2 = 1 := hf2.2.rdS.len.1
        have h5 := CbS.key (stays (PutIs na [f i] (valK (f i))) ([f i]) (valK (f i))) hE2 rfl hf2.1 (u := .slice (some ⟨g2, 0, none⟩) 1 1) ⟨_, _, rfl, hf2.2.rdS⟩
        exact ⟨_, rfl, by simpa [CbK, told, don, upd, bv_length] using h5, trivial⟩
      case o6 =>
        refine StOp.free rfl (by kernel_rfl) (fun A va D w' hF hT hN hE hd hu hg => ?_)
        have e1 : A.eval (.tmp 0) = .slice (some ⟨b, off, none⟩) l.length lc := hF 0 rfl
        exact BigFrame.wp_move _ rfl ⟨_, rfl, e1, Below.refl _ _⟩
      case o7 =>
        refine StOp.free rfl (by kernel_rfl) (fun A va D w' hF hT hN hE hd hu hg => ?_)
        have e1 : A.eval (.tmp 8) = .int .i64 (i : Int) := hF 8 rfl
        exact BigFrame.wp_move _ rfl ⟨_, rfl, e1, Below.refl _ _⟩
      case o8 =>
        refine StOp.free rfl (by kernel_rfl) (fun A va D w' hF hT hN hE hd hu hg => ?_)
        have e1 : A.eval (.tmp 42) = .slice (some ⟨b, off, none⟩) l.length lc := (hT 42 6 (by simp) rfl).trans (hg ⟨6, .data⟩ (by simp) rfl rfl)
        have e2 : A.eval (.tmp 43) = .int .i64 (i : Int) := (hT 43 7 (by simp) rfl).trans (hg ⟨7, .data⟩ (by simp) rfl rfl)
        exact wp_ixN (e := 5) rfl (by kernel_rfl) (by kernel_rfl) (e1) (e2) rfl (by omega) ⟨_, rfl, rfl, Below.refl _ _⟩
      case o9 =>
        refine StOp.free rfl (by kernel_rfl) (fun A va D w' hF hT hN hE hd hu hg => ?_)
        have e1 : A.eval (.tmp 44) = .pointer (some ⟨b, off + i * 1, none⟩) := (hT 44 8 (by simp) rfl).trans (hg ⟨8, .data⟩ (by simp) rfl rfl)
        exact wp_ld_int (k := .u8) rfl (e1) (by kernel_rfl) ((((q.trans ((CbK.below hE).mono q.size)).cell (p := ⟨b, off + i * 1, none⟩) hbB).trans (by simpa using hci))) ⟨_, rfl, rfl, Below.refl _ _⟩
      case o10 =>
        refine StOp.free rfl (by kernel_rfl) (fun A va D w' hF hT hN hE hd hu hg => ?_)
        have e1 : A.eval (.tmp 45) = .int .u8 ((f i).toNat : Int) := (hT 45 9 (by simp) rfl).trans (hg ⟨9, .data⟩ (by simp) rfl rfl)
        exact wp_convU8 rfl (by kernel_rfl) (by kernel_rfl) e1 (by omega) (by omega) ⟨_, rfl, rfl, Below.refl _ _⟩
      case o11 =>
        refine StOp.free rfl (by kernel_rfl) (fun A va D w' hF hT hN hE hd hu hg => ?_)
        have e2 : A.eval (.tmp 46) = .int .i64 ((f i).toNat : Int) := (hT 46 10 (by simp) rfl).trans (hg ⟨10, .data⟩ (by simp) rfl rfl)
        exact wp_addI rfl (rfl) (e2) (by omega) (by omega) ⟨_, rfl, rfl, Below.refl _ _⟩
      case o12 =>
        refine StOp.set rfl (by kernel_rfl) (fun A va D w' hF hT hN hE hd hu hg => ?_)
        have e1 : A.eval (.tmp 47) = .int .i64 (1 + ((f i).toNat : Int)) := (hT 47 11 (by simp) rfl).trans (hg ⟨11, .data⟩ (by simp) rfl rfl)
        have hE2 := hE
        simp only [told, List.map_cons, List.map_nil, hN, Bool.false_eq_true, if_false] at hE2
        refine wp_callFn rfl eO (args := #[.int .i64 (1 + ((f i).toNat : Int))]) (by simp only [List.map_toArray, List.map_cons, List.map_nil, e1]) ((one_any w' (s := 1 + ((f i).toNat : Int)) ⟨by omega, by omega⟩).mono ?_)
        rintro e w2 ⟨a2, c2, rfl, hv2, hb2⟩
        have h5 := CbS.vers (stays (PutIs na [f i] (valK (f i))) ([f i]) (valK (f i))) hE2 hb2 (u := .slice a2 1 c2) ⟨_, _, rfl, hv2⟩
        exact ⟨_, rfl, _, rfl, by simpa [CbK, told, don, upd] using h5, trivial⟩
      case o13 =>
        refine StOp.set rfl (by kernel_rfl) (fun A va D w' hF hT hN hE hd hu hg => ?_)
        have e1 : A.eval (.tmp 36) = .agg #[.slice XA1 na.keys.length YA1, .slice XA2 na.chains.length YA2, .slice XA3 na.kids.length YA3] := (hT 36 0 (by simp) rfl).trans (hg ⟨0, .data⟩ (by simp) rfl rfl)
        have x2 : A.eval (.tmp 41) = va 5 := hT 41 5 (by simp) rfl
        have x3 : A.eval (.tmp 48) = va 12 := hT 48 12 (by simp) rfl
        have hE2 := hE
        have d5 : D 5 = true := hd ⟨5, .data⟩ (by simp) rfl
        have d12 : D 12 = true := hd ⟨12, .data⟩ (by simp) rfl
        simp only [told, List.map_cons, List.map_nil, hN, d5, d12, Bool.false_eq_true, if_false, if_true] at hE2
        have hBE := hE2.be
        obtain ⟨ka, kc, ek, hkr⟩ := hE2.k1 _ rfl
        obtain ⟨va2, vc, ev, hvr⟩ := hE2.k2 _ rfl
        refine wp_callFn rfl eP (args := #[.agg #[.slice XA1 na.keys.length YA1, .slice XA2 na.chains.length YA2, .slice XA3 na.kids.length YA3], .slice ka [f i].length kc, .slice va2 (valK (f i)).length vc]) (by simp only [List.map_toArray, List.map_cons, List.map_nil, e1, x2.trans ek, x3.trans ev]) ((hC.put w' (hA.below hBE) fitA hkr (by simp) hvr (valK_small _)).mono ?_)
        rintro e w2 ⟨v, n2, er, rfl, hq, hrd, hb2⟩
        have h5 := CbS.call (stays (PutIs na [f i] (valK (f i))) ([f i]) (valK (f i))) hE2 (by simp) hb2 (v := v) (e := .int .i64 (er : Nat)) ⟨n2, er, rfl, hq, hrd⟩
        exact ⟨_, rfl, _, rfl, by simpa [CbK, told, don, upd, bv_length, d5, d12] using h5, trivial⟩
      case o14 =>
        refine StOp.set rfl (by kernel_rfl) (fun A va D w' hF hT hN hE hd hu hg => ?_)
        have x1 : A.eval (.tmp 49) = va 13 := hT 49 13 (by simp) rfl
        have hE2 := hE
        have d13 : D 13 = true := hd ⟨13, .data⟩ (by simp) rfl
        simp only [told, List.map_cons, List.map_nil, hN, d13, Bool.false_eq_true, if_false, if_true] at hE2
        have h5 := CbS.move hE2
        exact BigFrame.wp_move _ rfl ⟨_, rfl, by rw [x1]; simpa [CbK, told, don, upd, bv_length, d13] using h5, trivial⟩
      case o15 =>
        refine StOp.set rfl (by kernel_rfl) (fun A va D w' hF hT hN hE hd hu hg => ?_)
        have x1 : A.eval (.tmp 35) = va 14 := hT 35 14 (by simp) rfl
        have hE2 := hE
        have d14 : D 14 = true := hd ⟨14, .data⟩ (by simp) rfl
        simp only [told, List.map_cons, List.map_nil, hN, d14, Bool.false_eq_true, if_false, if_true] at hE2
        obtain ⟨v, e, em⟩ := CbS.tup hE2
        rw [em] at hE2
        have h5 := CbS.ex0 hE2
        exact wp_ex rfl (x1.trans em) rfl ⟨_, rfl, by simpa [CbK, told, don, upd, d14, em] using h5, trivial⟩
      case o16 =>
        refine StOp.set rfl (by kernel_rfl) (fun A va D w' hF hT hN hE hd hu hg => ?_)
        have x1 : A.eval (.tmp 35) = va 14 := hT 35 14 (by simp) rfl
        have hE2 := hE
        have d14 : D 14 = true := hd ⟨14, .data⟩ (by simp) rfl
        simp only [told, List.map_cons, List.map_nil, hN, d14, Bool.false_eq_true, if_false, if_true] at hE2
        obtain ⟨v, e, em⟩ := CbS.tup hE2
        rw [em] at hE2
        have h5 := CbS.ex1 hE2
        exact wp_ex rfl (x1.trans em) rfl ⟨_, rfl, by simpa [CbK, told, don, upd, d14, em] using h5, trivial⟩
      case o17 =>
        refine StOp.set rfl (by kernel_rfl) (fun A va D w' hF hT hN hE hd hu hg => ?_)
        have hE2 := hE
        simp only [told, List.map_cons, List.map_nil, hN, Bool.false_eq_true, if_false] at hE2
        refine wp_allocN rfl (fun w2 hb2 hz => ⟨_, rfl, ?_, trivial⟩)
        have h5 := CbS.alloc (stays (PutIs na [f i] (valK (f i))) ([f i]) (valK (f i))) hE2 hb2 hz
        simpa [CbK, told, don, upd, bv_length] using h5
      case o18 =>
        refine StOp.set rfl (by kernel_rfl) (fun A va D w' hF hT hN hE hd hu hg => ?_)
        have x1 : A.eval (.tmp 10) = va 17 := hT 10 17 (by simp) rfl
        have x2 : A.eval (.tmp 50) = va 15 := hT 50 15 (by simp) rfl
        have hE2 := hE
        have d17 : D 17 = true := hd ⟨17, .data⟩ (by simp) rfl
        have d15 : D 15 = true := hd ⟨15, .data⟩ (by simp) rfl
        simp only [told, List.map_cons, List.map_nil, hN, d17, d15, Bool.false_eq_true, if_false, if_true] at hE2
        obtain ⟨b, eb, hb0⟩ := CbS.box hE2
        obtain ⟨e, hm⟩ := hE2.mx _ rfl
        obtain ⟨v, e2, ec, n2, er, _, _, hrd⟩ := hE2.rr _ (hE2.mv _ hm)
        obtain ⟨A1, B1, A2, B2, A3, B3, ev, _⟩ := id hrd
        injection ec with ec
        injection ec with ec
        injection ec with ec _
        rw [← ec] at ev
        refine wp_storeT rfl (x1.trans eb) (x2.trans ev) rfl rfl rfl hb0 (fun w2 hg2 ht2 => ⟨_, rfl, ?_, trivial⟩)
        rw [eb] at hE2
        have h5 := CbS.sto (u := undef) (stays (PutIs na [f i] (valK (f i))) ([f i]) (valK (f i))) hE2 hg2 ⟨_, _, _, ev, ht2⟩
        simpa [CbK, told, don, upd, d17, d15, eb] using h5
      case o19 =>
        refine StOp.free rfl (by kernel_rfl) (fun A va D w' hF hT hN hE hd hu hg => ?_)
        have x1 : A.eval (.tmp 51) = va 16 := hT 51 16 (by simp) rfl
        have hE2 := hE
        have d16 : D 16 = true := hd ⟨16, .data⟩ (by simp) rfl
        simp only [told, List.map_cons, List.map_nil, d16, if_true] at hE2
        have ee := CbS.err hE2 (fun n er hQ => (fA.step hQ).1)
        exact BigFrame.wp_assign _ rfl ⟨_, rfl, x1.trans ee, Below.refl _ _⟩
      case fin =>
        intro vs1 W1 hE hG
        obtain ⟨bM, ez, em, ec, hbM, hBx, hR, hbE⟩ := CbS.done (nodeR _) hE (by simp)
        obtain ⟨nM, er, ee, hQ, hM⟩ := hR
        have her : er = 0 := (fA.step hQ).1
        rw [her] at ee hQ
        clear her
        obtain ⟨x1, y1, z1, ev, hTM⟩ := hBx
        have g0 : vs1 0 = .agg #[.slice XA1 na.keys.length YA1, .slice XA2 na.chains.length YA2, .slice XA3 na.kids.length YA3] := hG 0 (by decide) rfl
        have g1 : vs1 1 = .slice (some ⟨b, off, none⟩) l.length lc := hG 1 (by decide) rfl
        have g2 : vs1 2 = .int .i64 (i : Int) := hG 2 (by decide) rfl
        have g3 : vs1 3 = .pointer (some ⟨b, off + i * 1, none⟩) := hG 3 (by decide) rfl
        have g4 : vs1 4 = .int .u8 ((f i).toNat : Int) := hG 4 (by decide) rfl
        have g6 : vs1 6 = .slice (some ⟨b, off, none⟩) l.length lc := hG 6 (by decide) rfl
        have g7 : vs1 7 = .int .i64 (i : Int) := hG 7 (by decide) rfl
        have g8 : vs1 8 = .pointer (some ⟨b, off + i * 1, none⟩) := hG 8 (by decide) rfl
        have g9 : vs1 9 = .int .u8 ((f i).toNat : Int) := hG 9 (by decide) rfl
        have g10 : vs1 10 = .int .i64 ((f i).toNat : Int) := hG 10 (by decide) rfl
        have g11 : vs1 11 = .int .i64 (1 + ((f i).toNat : Int)) := hG 11 (by decide) rfl
        have g19 : vs1 19 = .int .i64 (0 : Nat) := hG 19 (by decide) rfl
        simp only [putAll, g0, g1, g2, g3, g4, g6, g7, g8, g9, g10, g11, g19, ec, em, ev, ee, ez]
        rw [ev] at hM
        obtain ⟨_, fM⟩ := fA.step hQ
        obtain ⟨A1, B1, A2, B2, A3, B3, e3, _, _, _⟩ := id hM
        injection e3 with e3
        injection e3 with e3
        injection e3 with e4 e3
        injection e3 with e5 e3
        injection e3 with e6 _
        subst e4 e5 e6
        have zA := hTA.lt
        have zB := hTB.lt
        replace hM := hM.weak (S' := fun k => k ≠ ba ∧ k ≠ bb) fun k hk => by have := hk.1; omega
        clear hE hG ec em ev ee ez g0 g1 g2 g3 g4 g6 g7 g8 g9 g10 g11 g19 hQ
        have hsz := hbE.size
        replace q := q.trans (hbE.mono q.size)
        replace hTA := hTA.below hbE hTA.lt
        replace hTB := hTB.below hbE hTB.lt
        replace hA := hA.below hbE
        replace hB := hB.below hbE
        clear hbE tA0 tA1 tA2 hci hc256
        go_simp
        obtain ⟨m, hm⟩ : ∃ m, m = (i + tn) % N := ⟨_, rfl⟩
        have hmN : m < N := by rw [hm]; exact Nat.mod_lt _ (by omega)
        have hmod : ((i : Int) + (tn : Int)).tmod (N : Int) = (m : Int) := by rw [Int.tmod_eq_emod_of_nonneg (by omega), hm, Int.natCast_emod, Int.natCast_add]
        have hgi : g i = f m := by rw [hg.out, hm]
        have hcm := (q.cell (p := ⟨b, off + m, none⟩) hbB).trans (show w.cell? ⟨b, off + m, none⟩ = some (.int .u8 ((g i).toNat : Int)) by
          rw [hcl m (by omega), hgi, hf.out]
          simp [List.getD_eq_getElem?_getD, List.getElem?_eq_getElem (show m < l.length by omega)])
        have hN0 : ((N : Int) = 0) = False := by simp; omega
        clear hm hmin'
        have hd256 : ((g i).toNat : Int) ≤ 255 := by have := (g i).toNat_lt; omega
        have tB0 := hTB.cell0
        have tB1 := hTB.cell1
        have tB2 := hTB.cell2
        clear hgi
        go_upto_region 9 with (fail)
        clear hmN hmod hN0
        refine wp_region_setl (K := fun _ _ => True) (by kernel_rfl) (by kernel_rfl) [2, 6, 7, 8, 9, 10, 11, 12] (by kernel_rfl) [lEq (.agg #[.slice XB1 nb.keys.length YB1, .slice XB2 nb.chains.length YB2, .slice XB3 nb.kids.length YB3]), lEq (.int .u8 ((g i).toNat : Int)), lAny, lEq (.int .u8 ((g i).toNat : Int)), lEq (.int .i64 ((g i).toNat : Int)), lEq (.int .i64 (1 + ((g i).toNat : Int))), lAny, lAny, lAny, lAny, lAny, lAny, lAny, lEq (.int .i64 (0 : Nat))]
          (CbK (bv ([g i])).toArray 5 (NodeR (PutIs nb [g i] (valK (g i)))) zNode NodeB (KeyW ([g i])) (VerW (valK (g i))) W1) (CbK.more (stays (PutIs nb [g i] (valK (g i))) ([g i]) (valK (g i)))) (CbS.start _)
          ⟨?o0, ?o1, ?o2, ?o3, ?o4, ?o5, ?o6, ?o7, ?o8, ?o9, ?o10, ?o11, ?o12, ?o13, trivial⟩ ?fin
        case o0 =>
          refine StOp.free rfl (by kernel_rfl) (fun A va D w' hF hT hN hE hd hu hg => ?_)
          have e1 : A.eval (.tmp 7) = .pointer (some ⟨bb, 0, none⟩) := hF 7 rfl
          exact wp_load3 ndS rfl (e1) ((hTB.below (CbK.below hE) hTB.lt).cell0) ((hTB.below (CbK.below hE) hTB.lt).cell1) ((hTB.below (CbK.below hE) hTB.lt).cell2) ⟨_, rfl, rfl, Below.refl _ _⟩
        case o1 =>
          refine StOp.free rfl (by kernel_rfl) (fun A va D w' hF hT hN hE hd hu hg => ?_)
          have e1 : A.eval (.tmp 12) = .int .u8 ((g i).toNat : Int) := hF 12 rfl
          exact BigFrame.wp_move _ rfl ⟨_, rfl, e1, Below.refl _ _⟩
        case o2 =>
          refine StOp.set rfl (by kernel_rfl) (fun A va D w' hF hT hN hE hd hu hg => ?_)
          have e1 : A.eval (.tmp 63) = .int .u8 ((g i).toNat : Int) := (hT 63 1 (by simp) rfl).trans (hg ⟨1, .data⟩ (by simp) rfl rfl)
          have hE2 := hE
          simp only [told, List.map_cons, List.map_nil, hN, Bool.false_eq_true, if_false] at hE2
          refine wp_build byP rfl [g i] (by simp [bv, e1]) rfl (by simp) (fun g2 k2 w2 hf2 => ?_)
          obtain rfl : k2 = 1 := hf2.2.rdS.len.1
          have h5 := CbS.key (stays (PutIs nb [g i] (valK (g i))) ([g i]) (valK (g i))) hE2 rfl hf2.1 (u := .slice (some ⟨g2, 0, none⟩) 1 1) ⟨_, _, rfl, hf2.2.rdS⟩
          exact ⟨_, rfl, by simpa [CbK, told, don, upd, bv_length] using h5, trivial⟩
        case o3 =>
          refine StOp.free rfl (by kernel_rfl) (fun A va D w' hF hT hN hE hd hu hg => ?_)
          have e1 : A.eval (.tmp 12) = .int .u8 ((g i).toNat : Int) := hF 12 rfl
          exact BigFrame.wp_move _ rfl ⟨_, rfl, e1, Below.refl _ _⟩
        case o4 =>
          refine StOp.free rfl (by kernel_rfl) (fun A va D w' hF hT hN hE hd hu hg => ?_)
          have e1 : A.eval (.tmp 65) = .int .u8 ((g i).toNat : Int) := (hT 65 3 (by simp) rfl).trans (hg ⟨3, .data⟩ (by simp) rfl rfl)
          exact wp_convU8 rfl (by kernel_rfl) (by kernel_rfl) e1 (by omega) (by omega) ⟨_, rfl, rfl, Below.refl _ _⟩
        case o5 =>
          refine StOp.free rfl (by kernel_rfl) (fun A va D w' hF hT hN hE hd hu hg => ?_)
          have e2 : A.eval (.tmp 66) = .int .i64 ((g i).toNat : Int) := (hT 66 4 (by simp) rfl).trans (hg ⟨4, .data⟩ (by simp) rfl rfl)
          exact wp_addI rfl (rfl) (e2) (by omega) (by omega) ⟨_, rfl, rfl, Below.refl _ _⟩
        case o6 =>
          refine StOp.set rfl (by kernel_rfl) (fun A va D w' hF hT hN hE hd hu hg => ?_)
          have e1 : A.eval (.tmp 67) = .int .i64 (1 + ((g i).toNat : Int)) := (hT 67 5 (by simp) rfl).trans (hg ⟨5, .data⟩ (by simp) rfl rfl)
          have hE2 := hE
          simp only [told, List.map_cons, List.map_nil, hN, Bool.false_eq_true, if_false] at hE2
          refine wp_callFn rfl eO (args := #[.int .i64 (1 + ((g i).toNat : Int))]) (by simp only [List.map_toArray, List.map_cons, List.map_nil, e1]) ((one_any w' (s := 1 + ((g i).toNat : Int)) ⟨by omega, by omega⟩).mono ?_)
          rintro e w2 ⟨a2, c2, rfl, hv2, hb2⟩
          have h5 := CbS.vers (stays (PutIs nb [g i] (valK (g i))) ([g i]) (valK (g i))) hE2 hb2 (u := .slice a2 1 c2) ⟨_, _, rfl, hv2⟩
          exact ⟨_, rfl, _, rfl, by simpa [CbK, told, don, upd] using h5, trivial⟩
        case o7 =>
          refine StOp.set rfl (by kernel_rfl) (fun A va D w' hF hT hN hE hd hu hg => ?_)
          have e1 : A.eval (.tmp 62) = .agg #[.slice XB1 nb.keys.length YB1, .slice XB2 nb.chains.length YB2, .slice XB3 nb.kids.length YB3] := (hT 62 0 (by simp) rfl).trans (hg ⟨0, .data⟩ (by simp) rfl rfl)
          have x2 : A.eval (.tmp 64) = va 2 := hT 64 2 (by simp) rfl
          have x3 : A.eval (.tmp 68) = va 6 := hT 68 6 (by simp) rfl
          have hE2 := hE
          have d2 : D 2 = true := hd ⟨2, .data⟩ (by simp) rfl
          have d6 : D 6 = true := hd ⟨6, .data⟩ (by simp) rfl
          simp only [told, List.map_cons, List.map_nil, hN, d2, d6, Bool.false_eq_true, if_false, if_true] at hE2
          have hBE := hE2.be
          obtain ⟨ka, kc, ek, hkr⟩ := hE2.k1 _ rfl
          obtain ⟨va2, vc, ev, hvr⟩ := hE2.k2 _ rfl
          refine wp_callFn rfl eP (args := #[.agg #[.slice XB1 nb.keys.length YB1, .slice XB2 nb.chains.length YB2, .slice XB3 nb.kids.length YB3], .slice ka [g i].length kc, .slice va2 (valK (g i)).length vc]) (by simp only [List.map_toArray, List.map_cons, List.map_nil, e1, x2.trans ek, x3.trans ev]) ((hC.put w' (hB.below hBE) fitB hkr (by simp) hvr (valK_small _)).mono ?_)
          rintro e w2 ⟨v, n2, er, rfl, hq, hrd, hb2⟩
          have h5 := CbS.call (stays (PutIs nb [g i] (valK (g i))) ([g i]) (valK (g i))) hE2 (by simp) hb2 (v := v) (e := .int .i64 (er : Nat)) ⟨n2, er, rfl, hq, hrd⟩
          exact ⟨_, rfl, _, rfl, by simpa [CbK, told, don, upd, bv_length, d2, d6] using h5, trivial⟩
        case o8 =>
          refine StOp.set rfl (by kernel_rfl) (fun A va D w' hF hT hN hE hd hu hg => ?_)
          have x1 : A.eval (.tmp 69) = va 7 := hT 69 7 (by simp) rfl
          have hE2 := hE
          have d7 : D 7 = true := hd ⟨7, .data⟩ (by simp) rfl
          simp only [told, List.map_cons, List.map_nil, hN, d7, Bool.false_eq_true, if_false, if_true] at hE2
          have h5 := CbS.move hE2
          exact BigFrame.wp_move _ rfl ⟨_, rfl, by rw [x1]; simpa [CbK, told, don, upd, bv_length, d7] using h5, trivial⟩
        case o9 =>
          refine StOp.set rfl (by kernel_rfl) (fun A va D w' hF hT hN hE hd hu hg => ?_)
          have x1 : A.eval (.tmp 61) = va 8 := hT 61 8 (by simp) rfl
          have hE2 := hE
          have d8 : D 8 = true := hd ⟨8, .data⟩ (by simp) rfl
          simp only [told, List.map_cons, List.map_nil, hN, d8, Bool.false_eq_true, if_false, if_true] at hE2
          obtain ⟨v, e, em⟩ := CbS.tup hE2
          rw [em] at hE2
          have h5 := CbS.ex0 hE2
          exact wp_ex rfl (x1.trans em) rfl ⟨_, rfl, by simpa [CbK, told, don, upd, d8, em] using h5, trivial⟩
        case o10 =>
          refine StOp.set rfl (by kernel_rfl) (fun A va D w' hF hT hN hE hd hu hg => ?_)
          have x1 : A.eval (.tmp 61) = va 8 := hT 61 8 (by simp) rfl
          have hE2 := hE
          have d8 : D 8 = true := hd ⟨8, .data⟩ (by simp) rfl
          simp only [told, List.map_cons, List.map_nil, hN, d8, Bool.false_eq_true, if_false, if_true] at hE2
          obtain ⟨v, e, em⟩ := CbS.tup hE2
          rw [em] at hE2
          have h5 := CbS.ex1 hE2
          exact wp_ex rfl (x1.trans em) rfl ⟨_, rfl, by simpa [CbK, told, don, upd, d8, em] using h5, trivial⟩
        case o11 =>
          refine StOp.set rfl (by kernel_rfl) (fun A va D w' hF hT hN hE hd hu hg => ?_)
          have hE2 := hE
          simp only [told, List.map_cons, List.map_nil, hN, Bool.false_eq_true, if_false] at hE2
          refine wp_allocN rfl (fun w2 hb2 hz => ⟨_, rfl, ?_, trivial⟩)
          have h5 := CbS.alloc (stays (PutIs nb [g i] (valK (g i))) ([g i]) (valK (g i))) hE2 hb2 hz
          simpa [CbK, told, don, upd, bv_length] using h5
        case o12 =>
          refine StOp.set rfl (by kernel_rfl) (fun A va D w' hF hT hN hE hd hu hg => ?_)
          have x1 : A.eval (.tmp 13) = va 11 := hT 13 11 (by simp) rfl
          have x2 : A.eval (.tmp 70) = va 9 := hT 70 9 (by simp) rfl
          have hE2 := hE
          have d11 : D 11 = true := hd ⟨11, .data⟩ (by simp) rfl
          have d9 : D 9 = true := hd ⟨9, .data⟩ (by simp) rfl
          simp only [told, List.map_cons, List.map_nil, hN, d11, d9, Bool.false_eq_true, if_false, if_true] at hE2
          obtain ⟨b, eb, hb0⟩ := CbS.box hE2
          obtain ⟨e, hm⟩ := hE2.mx _ rfl
          obtain ⟨v, e2, ec, n2, er, _, _, hrd⟩ := hE2.rr _ (hE2.mv _ hm)
          obtain ⟨A1, B1, A2, B2, A3, B3, ev, _⟩ := id hrd
          injection ec with ec
          injection ec with ec
          injection ec with ec _
          rw [← ec] at ev
          refine wp_storeT rfl (x1.trans eb) (x2.trans ev) rfl rfl rfl hb0 (fun w2 hg2 ht2 => ⟨_, rfl, ?_, trivial⟩)
          rw [eb] at hE2
          have h5 := CbS.sto (u := undef) (stays (PutIs nb [g i] (valK (g i))) ([g i]) (valK (g i))) hE2 hg2 ⟨_, _, _, ev, ht2⟩
          simpa [CbK, told, don, upd, d11, d9, eb] using h5
        case o13 =>
          refine StOp.free rfl (by kernel_rfl) (fun A va D w' hF hT hN hE hd hu hg => ?_)
          have x1 : A.eval (.tmp 71) = va 10 := hT 71 10 (by simp) rfl
          have hE2 := hE
          have d10 : D 10 = true := hd ⟨10, .data⟩ (by simp) rfl
          simp only [told, List.map_cons, List.map_nil, d10, if_true] at hE2
          have ee := CbS.err hE2 (fun n er hQ => (fB.step hQ).1)
          exact BigFrame.wp_assign _ rfl ⟨_, rfl, x1.trans ee, Below.refl _ _⟩
        case fin =>
          intro vs2 W2 hE hG
          obtain ⟨bP, ez, em, ec, hbP, hBx, hR, hbE⟩ := CbS.done (nodeR _) hE (by simp)
          obtain ⟨nP, er, ee, hQ, hP⟩ := hR
          have her : er = 0 := (fB.step hQ).1
          rw [her] at ee hQ
          clear her
          obtain ⟨x1, y1, z1, ev, hTP⟩ := hBx
          have g0 : vs2 0 = .agg #[.slice XB1 nb.keys.length YB1, .slice XB2 nb.chains.length YB2, .slice XB3 nb.kids.length YB3] := hG 0 (by decide) rfl
          have g1 : vs2 1 = .int .u8 ((g i).toNat : Int) := hG 1 (by decide) rfl
          have g3 : vs2 3 = .int .u8 ((g i).toNat : Int) := hG 3 (by decide) rfl
          have g4 : vs2 4 = .int .i64 ((g i).toNat : Int) := hG 4 (by decide) rfl
          have g5 : vs2 5 = .int .i64 (1 + ((g i).toNat : Int)) := hG 5 (by decide) rfl
          have g13 : vs2 13 = .int .i64 (0 : Nat) := hG 13 (by decide) rfl
          simp only [putAll, g0, g1, g3, g4, g5, g13, ec, em, ev, ee, ez]
          rw [ev] at hP
          obtain ⟨_, fP⟩ := fB.step hQ
          obtain ⟨C1, D1, C2, D2, C3, D3, e3, _, _, _⟩ := id hP
          injection e3 with e3
          injection e3 with e3
          injection e3 with e4 e3
          injection e3 with e5 e3
          injection e3 with e6 _
          subst e4 e5 e6
          have zM := hTM.lt
          replace hP := hP.weak (S' := fun k => k ≠ ba ∧ k ≠ bb) fun k hk => by have := hk.1; omega
          clear hE hG ec em ev ee ez g0 g1 g3 g4 g5 g13 hQ
          replace q := q.trans (hbE.mono q.size)
          replace hTA := hTA.below hbE hTA.lt
          replace hTB := hTB.below hbE hTB.lt
          replace hTM := hTM.below hbE hTM.lt
          replace hM := hM.below hbE
          clear hbE tB0 tB1 tB2 hcm hd256 hA hB
          have tM0 := hTM.cell0
          have tM1 := hTM.cell1
          have tM2 := hTM.cell2
          have tP0 := hTP.cell0
          have tP1 := hTP.cell1
          have tP2 := hTP.cell2
          go_simp
          go_upto_region 13 with (first | (refine wpList_storeT rfl rfl rfl rfl rfl rfl rfl rfl hTA ?_; intro w7 hg7 hTA7) | fail)
          have zP := hTP.lt
          have hsz7 := hg7.size
          have hTB7 := hTB.other hg7 (by omega)
          have hTP7 := hTP.other hg7 (by omega)
          replace hM := (hM.fit.keep fun k hk => hg7.block k hk.2 fun e => by injection e with e; exact hk.1.1 e).weak fun k hk => hk.1
          replace hP := (hP.fit.keep fun k hk => hg7.block k hk.2 fun e => by injection e with e; exact hk.1.1 e).weak fun k hk => hk.1
          have q7 := q.grown hg7 q.size fun k e => by injection e with e; omega
          clear tM0 tM1 tM2 tP0 tP1 tP2 hTA hTB hTM hTP hg7 q
          have tP0 := hTP7.cell0
          have tP1 := hTP7.cell1
          have tP2 := hTP7.cell2
          go_wp2_with (first | (refine wpList_storeT rfl rfl rfl rfl rfl rfl rfl rfl hTB7 ?_; intro w8 hg8 hTB8) | fail)
          go_roundw
          case rel =>
            refine ⟨i + 1, nM, nP, _, _, _, _, _, _, by go_num, by omega, hTA7.other hg8 (by omega), hTB8, (hM.fit.keep fun k hk => hg8.block k hk.2 fun e => by injection e with e; exact hk.1.2 e).weak fun k hk => hk.1, (hP.fit.keep fun k hk => hg8.block k hk.2 fun e => by injection e with e; exact hk.1.2 e).weak fun k hk => hk.1, fM, fP, q7.grown hg8 q7.size fun k e => by injection e with e; omega⟩
          case measure => simp [intOf]; omega
    · obtain rfl : i = N := by omega
      have hPP : pairsN na = pairsN nb := fA.same fB
        (fun j hj => ⟨(j + (i - tn % i)) % i, Nat.mod_lt _ (by omega), by rw [hg.out]; show f (((j + (i - tn % i)) % i + tn) % i) = f j; rw [rot_back hj]⟩)
        (fun j hj => ⟨(j + tn) % i, Nat.mod_lt _ (by omega), by rw [hg.out]⟩)
      have hpA : prN na = pairsN na := if_pos fA.ok
      have hpB : prN nb = prN na := by rw [hpA, hPP]; exact if_pos fB.ok
      have hlA : (prN na).length ≤ 40 := by rw [hpA]; have := fA.len; omega
      have d3 : ((i < l.length) = True ∧ decide ((i : Int) < 40) = false) ∨ (i < l.length) = False := by
        have := hN.out
        by_cases h : i < l.length
        · exact .inl ⟨eq_true h, decide_eq_false (by omega)⟩
        · exact .inr (eq_false h)
      clear hPP
      replace hpA := Lib.hid hpA
      replace hpB := Lib.hid hpB
      have tA0 := hTA.cell0
      have tA1 := hTA.cell1
      have tA2 := hTA.cell2
      have tB0 := hTB.cell0
      have tB1 := hTB.cell1
      have tB2 := hTB.cell2
      rcases d3 with ⟨d4, d5⟩ | d4
      · have hAz := hTA
        have hBz := hTB
        go_upto_region 14 with (fail)
        have fitA1 : fitN na := fitA
        refine wp_region_gsg (by kernel_rfl) (by kernel_rfl) [sgEq (.agg #[.slice XA1 na.keys.length YA1, .slice XA2 na.chains.length YA2, .slice XA3 na.kids.length YA3]), sgVP (prN na), sgEq (.agg #[.slice XB1 nb.keys.length YB1, .slice XB2 nb.chains.length YB2, .slice XB3 nb.kids.length YB3]), sgVP (prN na), sgEq (.bool true), sgEq (.bool true)]
          ⟨?o0, ?o1, ?o2, ?o3, ?o4, ?o5, trivial⟩ ?fin
        case o0 =>
          refine GdOp.plain rfl (fun A vs w' hF hT hb hd => ?_)
          have e1 : A.eval (.tmp 6) = .pointer (some ⟨ba, 0, none⟩) := hF 6 rfl
          have hb3 := hAz.below hb hAz.lt
          exact wp_load3 ndS rfl e1 hb3.cell0 hb3.cell1 hb3.cell2 ⟨_, rfl, rfl, Below.refl _ _⟩
        case o1 =>
          refine GdOp.plain rfl (fun A vs w' hF hT hb hd => ?_)
          have e1 : A.eval (.tmp 80) = .agg #[.slice XA1 na.keys.length YA1, .slice XA2 na.chains.length YA2, .slice XA3 na.kids.length YA3] := (hT 80 0 (by simp) rfl).trans (hd ⟨0, .data⟩ (by simp) rfl)
          refine wp_callFn rfl (enters_of Try.func20 (by kernel_rfl) rfl) (args := #[.agg #[.slice XA1 na.keys.length YA1, .slice XA2 na.chains.length YA2, .slice XA3 na.kids.length YA3]]) (by simp [e1]) ((lawPairs_any hC w' (hA.below hb) fitA (by omega)).mono ?_)
          rintro e w2 ⟨ap, np, cp, rfl, hP, hb2⟩
          exact ⟨_, rfl, _, rfl, ⟨_, _, _, rfl, hP⟩, hb2⟩
        case o2 =>
          refine GdOp.plain rfl (fun A vs w' hF hT hb hd => ?_)
          have e1 : A.eval (.tmp 7) = .pointer (some ⟨bb, 0, none⟩) := hF 7 rfl
          have hb3 := hBz.below hb hBz.lt
          exact wp_load3 ndS rfl e1 hb3.cell0 hb3.cell1 hb3.cell2 ⟨_, rfl, rfl, Below.refl _ _⟩
        case o3 =>
          refine GdOp.plain rfl (fun A vs w' hF hT hb hd => ?_)
          have e1 : A.eval (.tmp 82) = .agg #[.slice XB1 nb.keys.length YB1, .slice XB2 nb.chains.length YB2, .slice XB3 nb.kids.length YB3] := (hT 82 2 (by simp) rfl).trans (hd ⟨2, .data⟩ (by simp) rfl)
          refine wp_callFn rfl (enters_of Try.func20 (by kernel_rfl) rfl) (args := #[.agg #[.slice XB1 nb.keys.length YB1, .slice XB2 nb.chains.length YB2, .slice XB3 nb.kids.length YB3]]) (by simp [e1]) ((lawPairs_any hC w' (hB.below hb) fitB (by rw [hpB.out]; omega)).mono ?_)
          rintro e w2 ⟨ap, np, cp, rfl, hP, hb2⟩
          rw [hpB.out] at hP
          exact ⟨_, rfl, _, rfl, ⟨_, _, _, rfl, hP⟩, hb2⟩
        case o4 =>
          refine GdOp.plain rfl (fun A vs w' hF hT hb hd => ?_)
          obtain ⟨p1, p2, p3, ep, hp⟩ := hd ⟨1, .data⟩ (by simp) rfl
          obtain ⟨r1, r2, r3, er, hr⟩ := hd ⟨3, .data⟩ (by simp) rfl
          have x1 : A.eval (.tmp 81) = .slice p1 p2 p3 := (hT 81 1 (by simp) rfl).trans ep
          have x2 : A.eval (.tmp 83) = .slice r1 r2 r3 := (hT 83 3 (by simp) rfl).trans er
          refine wp_callFn rfl (enters_of Try.func19 (by kernel_rfl) rfl) (args := #[.slice p1 p2 p3, .slice r1 r2 r3]) (by simp only [List.map_toArray, List.map_cons, List.map_nil, x1, x2]) ((sameP_any w' hp hr).mono ?_)
          rintro e w2 ⟨rfl, hb2⟩
          exact ⟨_, rfl, _, rfl, congrArg Value.bool (decide_eq_true rfl), hb2⟩
        case o5 =>
          refine GdOp.plain rfl (fun A vs w' hF hT hb hd => ?_)
          have e1 : A.eval (.tmp 84) = .bool true := (hT 84 4 (by simp) rfl).trans (hd ⟨4, .data⟩ (by simp) rfl)
          exact BigFrame.wp_assign _ rfl ⟨_, rfl, e1, Below.refl _ _⟩
        case fin =>
          intro vs9 W9 hb hG
          have y0 : vs9 0 = .agg #[.slice XA1 na.keys.length YA1, .slice XA2 na.chains.length YA2, .slice XA3 na.kids.length YA3] := hG 0 (by decide)
          have y2 : vs9 2 = .agg #[.slice XB1 nb.keys.length YB1, .slice XB2 nb.chains.length YB2, .slice XB3 nb.kids.length YB3] := hG 2 (by decide)
          have y4 : vs9 4 = .bool true := hG 4 (by decide)
          have y5 : vs9 5 = .bool true := hG 5 (by decide)
          simp only [putAll, y0, y2, y4, y5]
          clear hG y0 y2 y4 y5
          replace q := q.trans (hb.mono q.size)
          replace hA := hA.below hb
          replace hB := hB.below hb
          replace hTA := hTA.below hb hTA.lt
          replace hTB := hTB.below hb hTB.lt
          clear hb
          go_simp
          clear hAz hBz tA0 tA1 tA2 tB0 tB1 tB2
          have tA0 := hTA.cell0
          have tA1 := hTA.cell1
          have tA2 := hTA.cell2
          by_cases h0 : l.length = 0
          · have d7 : ((l.length : Int) == 0) = true := by rw [beq_iff_eq]; omega
            go_wp2_with fail
            go_ret
            exact ⟨rfl, q⟩
          · have d7 : ((l.length : Int) == 0) = false := by rw [beq_eq_false_iff_ne]; omega
            have hi0 : 0 < i := by have := hN.out; omega
            have hl0 : 0 < l.length := by omega
            clear h0
            obtain ⟨b, off, ea, hbB, hcl⟩ := hl.cellAt 0 (by omega)
            subst ea
            have hci : w.cell? ⟨b, off, none⟩ = some (.int .u8 ((f 0).toNat : Int)) := by
              have := hcl 0 (by omega)
              rw [Nat.add_zero] at this
              rw [this, hf.out]
              simp [List.getD_eq_getElem?_getD, List.getElem?_eq_getElem (show 0 < l.length by omega)]
            have hc256 : ((f 0).toNat : Int) ≤ 255 := by have := (f 0).toNat_lt; omega
            have hfd := fA.found hi0
            have hsA := okN_srt fA.ok
            have hD0 : ∀ mm er, DelIs na [f 0] mm er → er = 0 ∧ okN mm ∧ pairsN mm = delP (pairsN na) [f 0] := fun mm er h => by
              unfold DelIs at h
              rw [if_pos fA.ok, hfd, if_pos (by rfl)] at h
              exact h
            have hAz := hTA
            go_upto_region 17 with (fail)
            clear d7
            refine wp_region_setl (K := fun _ _ => True) (by kernel_rfl) (by kernel_rfl) [4, 5, 6, 7, 8, 9, 10] (by kernel_rfl) [lEq (.agg #[.slice XA1 na.keys.length YA1, .slice XA2 na.chains.length YA2, .slice XA3 na.kids.length YA3]), lEq (.slice (some ⟨b, off, none⟩) l.length lc), lEq (.pointer (some ⟨b, off + 0 * 1, none⟩)), lEq (.int .u8 ((f 0).toNat : Int)), lAny, lAny, lAny, lAny, lAny, lAny, lAny, lEq (.int .i64 (0 : Nat))]
              (CbK (bv ([f 0])).toArray 5 (NodeR (DelIs na [f 0])) zNode NodeB (KeyW ([f 0])) (VerW ([])) W9) (CbK.more (stays (DelIs na [f 0]) ([f 0]) ([]))) (CbS.start _)
              ⟨?o0, ?o1, ?o2, ?o3, ?o4, ?o5, ?o6, ?o7, ?o8, ?o9, ?o10, ?o11, trivial⟩ ?fin
            case o0 =>
              refine StOp.free rfl (by kernel_rfl) (fun A va D w' hF hT hN hE hd hu hg => ?_)
              have e1 : A.eval (.tmp 6) = .pointer (some ⟨ba, 0, none⟩) := hF 6 rfl
              exact wp_load3 ndS rfl (e1) ((hAz.below (CbK.below hE) hAz.lt).cell0) ((hAz.below (CbK.below hE) hAz.lt).cell1) ((hAz.below (CbK.below hE) hAz.lt).cell2) ⟨_, rfl, rfl, Below.refl _ _⟩
            case o1 =>
              refine StOp.free rfl (by kernel_rfl) (fun A va D w' hF hT hN hE hd hu hg => ?_)
              have e1 : A.eval (.tmp 0) = .slice (some ⟨b, off, none⟩) l.length lc := hF 0 rfl
              exact BigFrame.wp_move _ rfl ⟨_, rfl, e1, Below.refl _ _⟩
            case o2 =>
              refine StOp.free rfl (by kernel_rfl) (fun A va D w' hF hT hN hE hd hu hg => ?_)
              have e1 : A.eval (.tmp 98) = .slice (some ⟨b, off, none⟩) l.length lc := (hT 98 1 (by simp) rfl).trans (hg ⟨1, .data⟩ (by simp) rfl rfl)
              exact wp_ixN (e := 5) rfl (by kernel_rfl) (by kernel_rfl) (e1) (rfl) rfl (by omega) ⟨_, rfl, rfl, Below.refl _ _⟩
            case o3 =>
              refine StOp.free rfl (by kernel_rfl) (fun A va D w' hF hT hN hE hd hu hg => ?_)
              have e1 : A.eval (.tmp 99) = .pointer (some ⟨b, off + 0 * 1, none⟩) := (hT 99 2 (by simp) rfl).trans (hg ⟨2, .data⟩ (by simp) rfl rfl)
              exact wp_ld_int (k := .u8) rfl (e1) (by kernel_rfl) (by simpa using (((q.trans ((CbK.below hE).mono q.size)).cell (p := ⟨b, off, none⟩) hbB).trans hci)) ⟨_, rfl, rfl, Below.refl _ _⟩
            case o4 =>
              refine StOp.set rfl (by kernel_rfl) (fun A va D w' hF hT hN hE hd hu hg => ?_)
              have e1 : A.eval (.tmp 100) = .int .u8 ((f 0).toNat : Int) := (hT 100 3 (by simp) rfl).trans (hg ⟨3, .data⟩ (by simp) rfl rfl)
              have hE2 := hE
              simp only [told, List.map_cons, List.map_nil, hN, Bool.false_eq_true, if_false] at hE2
              refine wp_build byP rfl [f 0] (by simp [bv, e1]) rfl (by simp) (fun g2 k2 w2 hf2 => ?_)
              obtain rfl : k2 = 1 := hf2.2.rdS.len.1
              have h5 := CbS.key (stays (DelIs na [f 0]) ([f 0]) ([])) hE2 rfl hf2.1 (u := .slice (some ⟨g2, 0, none⟩) 1 1) ⟨_, _, rfl, hf2.2.rdS⟩
              exact ⟨_, rfl, by simpa [CbK, told, don, upd, bv_length] using h5, trivial⟩
            case o5 =>
              refine StOp.set rfl (by kernel_rfl) (fun A va D w' hF hT hN hE hd hu hg => ?_)
              have e1 : A.eval (.tmp 97) = .agg #[.slice XA1 na.keys.length YA1, .slice XA2 na.chains.length YA2, .slice XA3 na.kids.length YA3] := (hT 97 0 (by simp) rfl).trans (hg ⟨0, .data⟩ (by simp) rfl rfl)
              have x2 : A.eval (.tmp 101) = va 4 := hT 101 4 (by simp) rfl
              have hE2 := hE
              have d4 : D 4 = true := hd ⟨4, .data⟩ (by simp) rfl
              simp only [told, List.map_cons, List.map_nil, hN, d4, Bool.false_eq_true, if_false, if_true] at hE2
              have hBE := hE2.be
              obtain ⟨ka, kc, ek, hkr⟩ := hE2.k1 _ rfl
              refine wp_callFn rfl eD (args := #[.agg #[.slice XA1 na.keys.length YA1, .slice XA2 na.chains.length YA2, .slice XA3 na.kids.length YA3], .slice ka [f 0].length kc]) (by simp only [List.map_toArray, List.map_cons, List.map_nil, e1, x2.trans ek]) ((hC.delete w' (hA.below hBE) fitA hkr (by simp)).mono ?_)
              rintro e w2 ⟨v, n2, er, rfl, hq, hrd, hb2⟩
              have h5 := CbS.call (stays (DelIs na [f 0]) ([f 0]) ([])) hE2 (by simp) hb2 (v := v) (e := .int .i64 (er : Nat)) ⟨n2, er, rfl, hq, hrd⟩
              exact ⟨_, rfl, _, rfl, by simpa [CbK, told, don, upd, bv_length, d4] using h5, trivial⟩
            case o6 =>
              refine StOp.set rfl (by kernel_rfl) (fun A va D w' hF hT hN hE hd hu hg => ?_)
              have x1 : A.eval (.tmp 102) = va 5 := hT 102 5 (by simp) rfl
              have hE2 := hE
              have d5 : D 5 = true := hd ⟨5, .data⟩ (by simp) rfl
              simp only [told, List.map_cons, List.map_nil, hN, d5, Bool.false_eq_true, if_false, if_true] at hE2
              have h5 := CbS.move hE2
              exact BigFrame.wp_move _ rfl ⟨_, rfl, by rw [x1]; simpa [CbK, told, don, upd, bv_length, d5] using h5, trivial⟩
            case o7 =>
              refine StOp.set rfl (by kernel_rfl) (fun A va D w' hF hT hN hE hd hu hg => ?_)
              have x1 : A.eval (.tmp 96) = va 6 := hT 96 6 (by simp) rfl
              have hE2 := hE
              have d6 : D 6 = true := hd ⟨6, .data⟩ (by simp) rfl
              simp only [told, List.map_cons, List.map_nil, hN, d6, Bool.false_eq_true, if_false, if_true] at hE2
              obtain ⟨v, e, em⟩ := CbS.tup hE2
              rw [em] at hE2
              have h5 := CbS.ex0 hE2
              exact wp_ex rfl (x1.trans em) rfl ⟨_, rfl, by simpa [CbK, told, don, upd, d6, em] using h5, trivial⟩
            case o8 =>
              refine StOp.set rfl (by kernel_rfl) (fun A va D w' hF hT hN hE hd hu hg => ?_)
              have x1 : A.eval (.tmp 96) = va 6 := hT 96 6 (by simp) rfl
              have hE2 := hE
              have d6 : D 6 = true := hd ⟨6, .data⟩ (by simp) rfl
              simp only [told, List.map_cons, List.map_nil, hN, d6, Bool.false_eq_true, if_false, if_true] at hE2
              obtain ⟨v, e, em⟩ := CbS.tup hE2
              rw [em] at hE2
              have h5 := CbS.ex1 hE2
              exact wp_ex rfl (x1.trans em) rfl ⟨_, rfl, by simpa [CbK, told, don, upd, d6, em] using h5, trivial⟩
            case o9 =>
              refine StOp.set rfl (by kernel_rfl) (fun A va D w' hF hT hN hE hd hu hg => ?_)
              have hE2 := hE
              simp only [told, List.map_cons, List.map_nil, hN, Bool.false_eq_true, if_false] at hE2
              refine wp_allocN rfl (fun w2 hb2 hz => ⟨_, rfl, ?_, trivial⟩)
              have h5 := CbS.alloc (stays (DelIs na [f 0]) ([f 0]) ([])) hE2 hb2 hz
              simpa [CbK, told, don, upd, bv_length] using h5
            case o10 =>
              refine StOp.set rfl (by kernel_rfl) (fun A va D w' hF hT hN hE hd hu hg => ?_)
              have x1 : A.eval (.tmp 16) = va 9 := hT 16 9 (by simp) rfl
              have x2 : A.eval (.tmp 103) = va 7 := hT 103 7 (by simp) rfl
              have hE2 := hE
              have d9 : D 9 = true := hd ⟨9, .data⟩ (by simp) rfl
              have d7 : D 7 = true := hd ⟨7, .data⟩ (by simp) rfl
              simp only [told, List.map_cons, List.map_nil, hN, d9, d7, Bool.false_eq_true, if_false, if_true] at hE2
              obtain ⟨b, eb, hb0⟩ := CbS.box hE2
              obtain ⟨e, hm⟩ := hE2.mx _ rfl
              obtain ⟨v, e2, ec, n2, er, _, _, hrd⟩ := hE2.rr _ (hE2.mv _ hm)
              obtain ⟨A1, B1, A2, B2, A3, B3, ev, _⟩ := id hrd
              injection ec with ec
              injection ec with ec
              injection ec with ec _
              rw [← ec] at ev
              refine wp_storeT rfl (x1.trans eb) (x2.trans ev) rfl rfl rfl hb0 (fun w2 hg2 ht2 => ⟨_, rfl, ?_, trivial⟩)
              rw [eb] at hE2
              have h5 := CbS.sto (u := undef) (stays (DelIs na [f 0]) ([f 0]) ([])) hE2 hg2 ⟨_, _, _, ev, ht2⟩
              simpa [CbK, told, don, upd, d9, d7, eb] using h5
            case o11 =>
              refine StOp.free rfl (by kernel_rfl) (fun A va D w' hF hT hN hE hd hu hg => ?_)
              have x1 : A.eval (.tmp 104) = va 8 := hT 104 8 (by simp) rfl
              have hE2 := hE
              have d8 : D 8 = true := hd ⟨8, .data⟩ (by simp) rfl
              simp only [told, List.map_cons, List.map_nil, d8, if_true] at hE2
              have ee := CbS.err hE2 (fun n er hQ => (hD0 _ _ hQ).1)
              exact BigFrame.wp_assign _ rfl ⟨_, rfl, x1.trans ee, Below.refl _ _⟩
            case fin =>
              intro vsD WD hE hG
              obtain ⟨bD, ez, em, ec, hbD, hBx, hR, hbE⟩ := CbS.done (nodeR _) hE (by simp)
              obtain ⟨nD, er, ee, hQ, hDn⟩ := hR
              have her : er = 0 := (hD0 _ _ hQ).1
              rw [her] at ee hQ
              clear her
              obtain ⟨x1, y1, z1, ev, hTD⟩ := hBx
              have g0 : vsD 0 = .agg #[.slice XA1 na.keys.length YA1, .slice XA2 na.chains.length YA2, .slice XA3 na.kids.length YA3] := hG 0 (by decide) rfl
              have g1 : vsD 1 = .slice (some ⟨b, off, none⟩) l.length lc := hG 1 (by decide) rfl
              have g2 : vsD 2 = .pointer (some ⟨b, off + 0 * 1, none⟩) := hG 2 (by decide) rfl
              have g3 : vsD 3 = .int .u8 ((f 0).toNat : Int) := hG 3 (by decide) rfl
              have g11 : vsD 11 = .int .i64 (0 : Nat) := hG 11 (by decide) rfl
              simp only [putAll, g0, g1, g2, g3, g11, ec, em, ev, ee, ez]
              rw [ev] at hDn
              obtain ⟨_, okD, prD⟩ := hD0 _ _ hQ
              obtain ⟨D1, E1, D2, E2, D3, E3, e3, _, _, _⟩ := id hDn
              injection e3 with e3
              injection e3 with e3
              injection e3 with e4 e3
              injection e3 with e5 e3
              injection e3 with e6 _
              subst e4 e5 e6
              replace hDn := hDn.weak (S' := fun _ => True) fun _ _ => trivial
              clear hE hG ec em ev ee ez g0 g1 g2 g3 g11 hQ hD0 hAz
              replace q := q.trans (hbE.mono q.size)
              replace hTA := hTA.below hbE hTA.lt
              replace hA := hA.below hbE
              clear hbE tA0 tA1 tA2 hB hTB
              have fitD : fitN nD := ok_fit okD (by rw [prD]; exact few_del ⟨by have := fA.len; omega, fA.sm⟩ _)
              have hP0 : ∀ mm er, PutIs nD [f 0] (valK (f 0)) mm er → er = 0 ∧ okN mm ∧ pairsN mm = pairsN na := fun mm er h => by
                unfold PutIs at h
                rw [if_pos ⟨okD, by simp, valK_ok _, valK_ne _⟩, prD, del_put hsA hfd] at h
                exact h
              have hMD : (prN nD).length + 1 = (prN na).length := by
                rw [show prN nD = pairsN nD from if_pos okD, prD, hpA.out]
                have := del_len hsA (k := [f 0])
                rw [hfd] at this
                exact this
              have hDz := hTD
              go_simp
              have tD0 := hTD.cell0
              have tD1 := hTD.cell1
              have tD2 := hTD.cell2
              go_upto_region 18 with (fail)
              refine wp_region_setl (K := fun _ _ => True) (by kernel_rfl) (by kernel_rfl) [4, 10, 11, 12, 13, 14, 15, 16] (by kernel_rfl) [lEq (.agg #[.slice D1 nD.keys.length E1, .slice D2 nD.chains.length E2, .slice D3 nD.kids.length E3]), lEq (.slice (some ⟨b, off, none⟩) l.length lc), lEq (.pointer (some ⟨b, off + 0 * 1, none⟩)), lEq (.int .u8 ((f 0).toNat : Int)), lAny, lEq (.slice (some ⟨b, off, none⟩) l.length lc), lEq (.pointer (some ⟨b, off + 0 * 1, none⟩)), lEq (.int .u8 ((f 0).toNat : Int)), lEq (.int .i64 ((f 0).toNat : Int)), lEq (.int .i64 (1 + ((f 0).toNat : Int))), lAny, lAny, lAny, lAny, lAny, lAny, lAny, lEq (.int .i64 (0 : Nat))]
                (CbK (bv ([f 0])).toArray 5 (NodeR (PutIs nD [f 0] (valK (f 0)))) zNode NodeB (KeyW ([f 0])) (VerW (valK (f 0))) WD) (CbK.more (stays (PutIs nD [f 0] (valK (f 0))) ([f 0]) (valK (f 0)))) (CbS.start _)
                ⟨?o0, ?o1, ?o2, ?o3, ?o4, ?o5, ?o6, ?o7, ?o8, ?o9, ?o10, ?o11, ?o12, ?o13, ?o14, ?o15, ?o16, ?o17, trivial⟩ ?fin
              case o0 =>
                refine StOp.free rfl (by kernel_rfl) (fun A va D w' hF hT hN hE hd hu hg => ?_)
                have e1 : A.eval (.tmp 16) = .pointer (some ⟨bD, 0, none⟩) := hF 16 rfl
                exact wp_load3 ndS rfl (e1) ((hDz.below (CbK.below hE) hDz.lt).cell0) ((hDz.below (CbK.below hE) hDz.lt).cell1) ((hDz.below (CbK.below hE) hDz.lt).cell2) ⟨_, rfl, rfl, Below.refl _ _⟩
              case o1 =>
                refine StOp.free rfl (by kernel_rfl) (fun A va D w' hF hT hN hE hd hu hg => ?_)
                have e1 : A.eval (.tmp 0) = .slice (some ⟨b, off, none⟩) l.length lc := hF 0 rfl
                exact BigFrame.wp_move _ rfl ⟨_, rfl, e1, Below.refl _ _⟩
              case o2 =>
                refine StOp.free rfl (by kernel_rfl) (fun A va D w' hF hT hN hE hd hu hg => ?_)
                have e1 : A.eval (.tmp 107) = .slice (some ⟨b, off, none⟩) l.length lc := (hT 107 1 (by simp) rfl).trans (hg ⟨1, .data⟩ (by simp) rfl rfl)
                exact wp_ixN (e := 5) rfl (by kernel_rfl) (by kernel_rfl) (e1) (rfl) rfl (by omega) ⟨_, rfl, rfl, Below.refl _ _⟩
              case o3 =>
                refine StOp.free rfl (by kernel_rfl) (fun A va D w' hF hT hN hE hd hu hg => ?_)
                have e1 : A.eval (.tmp 108) = .pointer (some ⟨b, off + 0 * 1, none⟩) := (hT 108 2 (by simp) rfl).trans (hg ⟨2, .data⟩ (by simp) rfl rfl)
                exact wp_ld_int (k := .u8) rfl (e1) (by kernel_rfl) (by simpa using (((q.trans ((CbK.below hE).mono q.size)).cell (p := ⟨b, off, none⟩) hbB).trans hci)) ⟨_, rfl, rfl, Below.refl _ _⟩
              case o4 =>
                refine StOp.set rfl (by kernel_rfl) (fun A va D w' hF hT hN hE hd hu hg => ?_)
                have e1 : A.eval (.tmp 109) = .int .u8 ((f 0).toNat : Int) := (hT 109 3 (by simp) rfl).trans (hg ⟨3, .data⟩ (by simp) rfl rfl)
                have hE2 := hE
                simp only [told, List.map_cons, List.map_nil, hN, Bool.false_eq_true, if_false] at hE2
                refine wp_build byP rfl [f 0] (by simp [bv, e1]) rfl (by simp) (fun g2 k2 w2 hf2 => ?_)
                obtain rfl : k2 = 1 := hf2.2.rdS.len.1
                have h5 := CbS.key (stays (PutIs nD [f 0] (valK (f 0))) ([f 0]) (valK (f 0))) hE2 rfl hf2.1 (u := .slice (some ⟨g2, 0, none⟩) 1 1) ⟨_, _, rfl, hf2.2.rdS⟩
                exact ⟨_, rfl, by simpa [CbK, told, don, upd, bv_length] using h5, trivial⟩
              case o5 =>
                refine StOp.free rfl (by kernel_rfl) (fun A va D w' hF hT hN hE hd hu hg => ?_)
                have e1 : A.eval (.tmp 0) = .slice (some ⟨b, off, none⟩) l.length lc := hF 0 rfl
                exact BigFrame.wp_move _ rfl ⟨_, rfl, e1, Below.refl _ _⟩
              case o6 =>
                refine StOp.free rfl (by kernel_rfl) (fun A va D w' hF hT hN hE hd hu hg => ?_)
                have e1 : A.eval (.tmp 111) = .slice (some ⟨b, off, none⟩) l.length lc := (hT 111 5 (by simp) rfl).trans (hg ⟨5, .data⟩ (by simp) rfl rfl)
                exact wp_ixN (e := 5) rfl (by kernel_rfl) (by kernel_rfl) (e1) (rfl) rfl (by omega) ⟨_, rfl, rfl, Below.refl _ _⟩
              case o7 =>
                refine StOp.free rfl (by kernel_rfl) (fun A va D w' hF hT hN hE hd hu hg => ?_)
                have e1 : A.eval (.tmp 112) = .pointer (some ⟨b, off + 0 * 1, none⟩) := (hT 112 6 (by simp) rfl).trans (hg ⟨6, .data⟩ (by simp) rfl rfl)
                exact wp_ld_int (k := .u8) rfl (e1) (by kernel_rfl) (by simpa using (((q.trans ((CbK.below hE).mono q.size)).cell (p := ⟨b, off, none⟩) hbB).trans hci)) ⟨_, rfl, rfl, Below.refl _ _⟩
              case o8 =>
                refine StOp.free rfl (by kernel_rfl) (fun A va D w' hF hT hN hE hd hu hg => ?_)
                have e1 : A.eval (.tmp 113) = .int .u8 ((f 0).toNat : Int) := (hT 113 7 (by simp) rfl).trans (hg ⟨7, .data⟩ (by simp) rfl rfl)
                exact wp_convU8 rfl (by kernel_rfl) (by kernel_rfl) e1 (by omega) (by omega) ⟨_, rfl, rfl, Below.refl _ _⟩
              case o9 =>
                refine StOp.free rfl (by kernel_rfl) (fun A va D w' hF hT hN hE hd hu hg => ?_)
                have e2 : A.eval (.tmp 114) = .int .i64 ((f 0).toNat : Int) := (hT 114 8 (by simp) rfl).trans (hg ⟨8, .data⟩ (by simp) rfl rfl)
                exact wp_addI rfl (rfl) (e2) (by omega) (by omega) ⟨_, rfl, rfl, Below.refl _ _⟩
              case o10 =>
                refine StOp.set rfl (by kernel_rfl) (fun A va D w' hF hT hN hE hd hu hg => ?_)
                have e1 : A.eval (.tmp 115) = .int .i64 (1 + ((f 0).toNat : Int)) := (hT 115 9 (by simp) rfl).trans (hg ⟨9, .data⟩ (by simp) rfl rfl)
                have hE2 := hE
                simp only [told, List.map_cons, List.map_nil, hN, Bool.false_eq_true, if_false] at hE2
                refine wp_callFn rfl eO (args := #[.int .i64 (1 + ((f 0).toNat : Int))]) (by simp only [List.map_toArray, List.map_cons, List.map_nil, e1]) ((one_any w' (s := 1 + ((f 0).toNat : Int)) ⟨by omega, by omega⟩).mono ?_)
                rintro e w2 ⟨a2, c2, rfl, hv2, hb2⟩
                have h5 := CbS.vers (stays (PutIs nD [f 0] (valK (f 0))) ([f 0]) (valK (f 0))) hE2 hb2 (u := .slice a2 1 c2) ⟨_, _, rfl, hv2⟩
                exact ⟨_, rfl, _, rfl, by simpa [CbK, told, don, upd] using h5, trivial⟩
              case o11 =>
                refine StOp.set rfl (by kernel_rfl) (fun A va D w' hF hT hN hE hd hu hg => ?_)
                have e1 : A.eval (.tmp 106) = .agg #[.slice D1 nD.keys.length E1, .slice D2 nD.chains.length E2, .slice D3 nD.kids.length E3] := (hT 106 0 (by simp) rfl).trans (hg ⟨0, .data⟩ (by simp) rfl rfl)
                have x2 : A.eval (.tmp 110) = va 4 := hT 110 4 (by simp) rfl
                have x3 : A.eval (.tmp 116) = va 10 := hT 116 10 (by simp) rfl
                have hE2 := hE
                have d4 : D 4 = true := hd ⟨4, .data⟩ (by simp) rfl
                have d10 : D 10 = true := hd ⟨10, .data⟩ (by simp) rfl
                simp only [told, List.map_cons, List.map_nil, hN, d4, d10, Bool.false_eq_true, if_false, if_true] at hE2
                have hBE := hE2.be
                obtain ⟨ka, kc, ek, hkr⟩ := hE2.k1 _ rfl
                obtain ⟨va2, vc, ev, hvr⟩ := hE2.k2 _ rfl
                refine wp_callFn rfl eP (args := #[.agg #[.slice D1 nD.keys.length E1, .slice D2 nD.chains.length E2, .slice D3 nD.kids.length E3], .slice ka [f 0].length kc, .slice va2 (valK (f 0)).length vc]) (by simp only [List.map_toArray, List.map_cons, List.map_nil, e1, x2.trans ek, x3.trans ev]) ((hC.put w' (hDn.below hBE) fitD hkr (by simp) hvr (valK_small _)).mono ?_)
                rintro e w2 ⟨v, n2, er, rfl, hq, hrd, hb2⟩
                have h5 := CbS.call (stays (PutIs nD [f 0] (valK (f 0))) ([f 0]) (valK (f 0))) hE2 (by simp) hb2 (v := v) (e := .int .i64 (er : Nat)) ⟨n2, er, rfl, hq, hrd⟩
                exact ⟨_, rfl, _, rfl, by simpa [CbK, told, don, upd, bv_length, d4, d10] using h5, trivial⟩
              case o12 =>
                refine StOp.set rfl (by kernel_rfl) (fun A va D w' hF hT hN hE hd hu hg => ?_)
                have x1 : A.eval (.tmp 117) = va 11 := hT 117 11 (by simp) rfl
                have hE2 := hE
                have d11 : D 11 = true := hd ⟨11, .data⟩ (by simp) rfl
                simp only [told, List.map_cons, List.map_nil, hN, d11, Bool.false_eq_true, if_false, if_true] at hE2
                have h5 := CbS.move hE2
                exact BigFrame.wp_move _ rfl ⟨_, rfl, by rw [x1]; simpa [CbK, told, don, upd, bv_length, d11] using h5, trivial⟩
              case o13 =>
                refine StOp.set rfl (by kernel_rfl) (fun A va D w' hF hT hN hE hd hu hg => ?_)
                have x1 : A.eval (.tmp 105) = va 12 := hT 105 12 (by simp) rfl
                have hE2 := hE
                have d12 : D 12 = true := hd ⟨12, .data⟩ (by simp) rfl
                simp only [told, List.map_cons, List.map_nil, hN, d12, Bool.false_eq_true, if_false, if_true] at hE2
                obtain ⟨v, e, em⟩ := CbS.tup hE2
                rw [em] at hE2
                have h5 := CbS.ex0 hE2
                exact wp_ex rfl (x1.trans em) rfl ⟨_, rfl, by simpa [CbK, told, don, upd, d12, em] using h5, trivial⟩
              case o14 =>
                refine StOp.set rfl (by kernel_rfl) (fun A va D w' hF hT hN hE hd hu hg => ?_)
                have x1 : A.eval (.tmp 105) = va 12 := hT 105 12 (by simp) rfl
                have hE2 := hE
                have d12 : D 12 = true := hd ⟨12, .data⟩ (by simp) rfl
                simp only [told, List.map_cons, List.map_nil, hN, d12, Bool.false_eq_true, if_false, if_true] at hE2
                obtain ⟨v, e, em⟩ := CbS.tup hE2
                rw [em] at hE2
                have h5 := CbS.ex1 hE2
                exact wp_ex rfl (x1.trans em) rfl ⟨_, rfl, by simpa [CbK, told, don, upd, d12, em] using h5, trivial⟩
              case o15 =>
                refine StOp.set rfl (by kernel_rfl) (fun A va D w' hF hT hN hE hd hu hg => ?_)
                have hE2 := hE
                simp only [told, List.map_cons, List.map_nil, hN, Bool.false_eq_true, if_false] at hE2
                refine wp_allocN rfl (fun w2 hb2 hz => ⟨_, rfl, ?_, trivial⟩)
                have h5 := CbS.alloc (stays (PutIs nD [f 0] (valK (f 0))) ([f 0]) (valK (f 0))) hE2 hb2 hz
                simpa [CbK, told, don, upd, bv_length] using h5
              case o16 =>
                refine StOp.set rfl (by kernel_rfl) (fun A va D w' hF hT hN hE hd hu hg => ?_)
                have x1 : A.eval (.tmp 18) = va 15 := hT 18 15 (by simp) rfl
                have x2 : A.eval (.tmp 118) = va 13 := hT 118 13 (by simp) rfl
                have hE2 := hE
                have d15 : D 15 = true := hd ⟨15, .data⟩ (by simp) rfl
                have d13 : D 13 = true := hd ⟨13, .data⟩ (by simp) rfl
                simp only [told, List.map_cons, List.map_nil, hN, d15, d13, Bool.false_eq_true, if_false, if_true] at hE2
                obtain ⟨b, eb, hb0⟩ := CbS.box hE2
                obtain ⟨e, hm⟩ := hE2.mx _ rfl
                obtain ⟨v, e2, ec, n2, er, _, _, hrd⟩ := hE2.rr _ (hE2.mv _ hm)
                obtain ⟨A1, B1, A2, B2, A3, B3, ev, _⟩ := id hrd
                injection ec with ec
                injection ec with ec
                injection ec with ec _
                rw [← ec] at ev
                refine wp_storeT rfl (x1.trans eb) (x2.trans ev) rfl rfl rfl hb0 (fun w2 hg2 ht2 => ⟨_, rfl, ?_, trivial⟩)
                rw [eb] at hE2
                have h5 := CbS.sto (u := undef) (stays (PutIs nD [f 0] (valK (f 0))) ([f 0]) (valK (f 0))) hE2 hg2 ⟨_, _, _, ev, ht2⟩
                simpa [CbK, told, don, upd, d15, d13, eb] using h5
              case o17 =>
                refine StOp.free rfl (by kernel_rfl) (fun A va D w' hF hT hN hE hd hu hg => ?_)
                have x1 : A.eval (.tmp 119) = va 14 := hT 119 14 (by simp) rfl
                have hE2 := hE
                have d14 : D 14 = true := hd ⟨14, .data⟩ (by simp) rfl
                simp only [told, List.map_cons, List.map_nil, d14, if_true] at hE2
                have ee := CbS.err hE2 (fun n er hQ => (hP0 _ _ hQ).1)
                exact BigFrame.wp_assign _ rfl ⟨_, rfl, x1.trans ee, Below.refl _ _⟩
              case fin =>
                intro vsC WC hE hG
                obtain ⟨bC, ez, em, ec, hbC, hBx, hR, hbE⟩ := CbS.done (nodeR _) hE (by simp)
                obtain ⟨nC, er, ee, hQ, hCn⟩ := hR
                have her : er = 0 := (hP0 _ _ hQ).1
                rw [her] at ee hQ
                clear her
                obtain ⟨x1, y1, z1, ev, hTC⟩ := hBx
                have g0 : vsC 0 = .agg #[.slice D1 nD.keys.length E1, .slice D2 nD.chains.length E2, .slice D3 nD.kids.length E3] := hG 0 (by decide) rfl
                have g1 : vsC 1 = .slice (some ⟨b, off, none⟩) l.length lc := hG 1 (by decide) rfl
                have g2 : vsC 2 = .pointer (some ⟨b, off + 0 * 1, none⟩) := hG 2 (by decide) rfl
                have g3 : vsC 3 = .int .u8 ((f 0).toNat : Int) := hG 3 (by decide) rfl
                have g5 : vsC 5 = .slice (some ⟨b, off, none⟩) l.length lc := hG 5 (by decide) rfl
                have g6 : vsC 6 = .pointer (some ⟨b, off + 0 * 1, none⟩) := hG 6 (by decide) rfl
                have g7 : vsC 7 = .int .u8 ((f 0).toNat : Int) := hG 7 (by decide) rfl
                have g8 : vsC 8 = .int .i64 ((f 0).toNat : Int) := hG 8 (by decide) rfl
                have g9 : vsC 9 = .int .i64 (1 + ((f 0).toNat : Int)) := hG 9 (by decide) rfl
                have g17 : vsC 17 = .int .i64 (0 : Nat) := hG 17 (by decide) rfl
                simp only [putAll, g0, g1, g2, g3, g5, g6, g7, g8, g9, g17, ec, em, ev, ee, ez]
                rw [ev] at hCn
                obtain ⟨_, okC, prC⟩ := hP0 _ _ hQ
                obtain ⟨G1, H1, G2, H2, G3, H3, e3, _, _, _⟩ := id hCn
                injection e3 with e3
                injection e3 with e3
                injection e3 with e4 e3
                injection e3 with e5 e3
                injection e3 with e6 _
                subst e4 e5 e6
                replace hCn := hCn.weak (S' := fun _ => True) fun _ _ => trivial
                clear hE hG ec em ev ee ez g0 g1 g2 g3 g5 g6 g7 g8 g9 g17 hQ hP0 hDz
                replace q := q.trans (hbE.mono q.size)
                replace hTA := hTA.below hbE hTA.lt
                replace hTD := hTD.below hbE hTD.lt
                replace hA := hA.below hbE
                replace hDn := hDn.below hbE
                clear hbE tD0 tD1 tD2
                have fitC : fitN nC := ok_fit okC (by rw [prC]; exact ⟨by have := fA.len; omega, fA.sm⟩)
                have hpC := Lib.hid (show prN nC = prN na by rw [hpA.out, ← prC]; exact if_pos okC)
                replace prC := Lib.hid prC
                replace prD := Lib.hid prD
                replace hfd := Lib.hid hfd
                replace hMD := Lib.hid hMD
                have hAz := hTA
                have hCz := hTC
                go_simp
                go_upto_region 19 with (fail)
                refine wp_region_gsg (by kernel_rfl) (by kernel_rfl) [sgEq (.agg #[.slice G1 nC.keys.length H1, .slice G2 nC.chains.length H2, .slice G3 nC.kids.length H3]), sgVP (prN na), sgEq (.agg #[.slice XA1 na.keys.length YA1, .slice XA2 na.chains.length YA2, .slice XA3 na.kids.length YA3]), sgVP (prN na), sgEq (.bool true), sgEq (.bool true)]
                  ⟨?o0, ?o1, ?o2, ?o3, ?o4, ?o5, trivial⟩ ?fin
                case o0 =>
                  refine GdOp.plain rfl (fun A vs w' hF hT hb hd => ?_)
                  have e1 : A.eval (.tmp 18) = .pointer (some ⟨bC, 0, none⟩) := hF 18 rfl
                  have hb3 := hCz.below hb hCz.lt
                  exact wp_load3 ndS rfl e1 hb3.cell0 hb3.cell1 hb3.cell2 ⟨_, rfl, rfl, Below.refl _ _⟩
                case o1 =>
                  refine GdOp.plain rfl (fun A vs w' hF hT hb hd => ?_)
                  have e1 : A.eval (.tmp 120) = .agg #[.slice G1 nC.keys.length H1, .slice G2 nC.chains.length H2, .slice G3 nC.kids.length H3] := (hT 120 0 (by simp) rfl).trans (hd ⟨0, .data⟩ (by simp) rfl)
                  refine wp_callFn rfl (enters_of Try.func20 (by kernel_rfl) rfl) (args := #[.agg #[.slice G1 nC.keys.length H1, .slice G2 nC.chains.length H2, .slice G3 nC.kids.length H3]]) (by simp [e1]) ((lawPairs_any hC w' (hCn.below hb) fitC (by rw [hpC.out]; omega)).mono ?_)
                  rintro e w2 ⟨ap, np, cp, rfl, hP, hb2⟩
                  rw [hpC.out] at hP
                  exact ⟨_, rfl, _, rfl, ⟨_, _, _, rfl, hP⟩, hb2⟩
                case o2 =>
                  refine GdOp.plain rfl (fun A vs w' hF hT hb hd => ?_)
                  have e1 : A.eval (.tmp 6) = .pointer (some ⟨ba, 0, none⟩) := hF 6 rfl
                  have hb3 := hAz.below hb hAz.lt
                  exact wp_load3 ndS rfl e1 hb3.cell0 hb3.cell1 hb3.cell2 ⟨_, rfl, rfl, Below.refl _ _⟩
                case o3 =>
                  refine GdOp.plain rfl (fun A vs w' hF hT hb hd => ?_)
                  have e1 : A.eval (.tmp 122) = .agg #[.slice XA1 na.keys.length YA1, .slice XA2 na.chains.length YA2, .slice XA3 na.kids.length YA3] := (hT 122 2 (by simp) rfl).trans (hd ⟨2, .data⟩ (by simp) rfl)
                  refine wp_callFn rfl (enters_of Try.func20 (by kernel_rfl) rfl) (args := #[.agg #[.slice XA1 na.keys.length YA1, .slice XA2 na.chains.length YA2, .slice XA3 na.kids.length YA3]]) (by simp [e1]) ((lawPairs_any hC w' (hA.below hb) fitA (by omega)).mono ?_)
                  rintro e w2 ⟨ap, np, cp, rfl, hP, hb2⟩
                  exact ⟨_, rfl, _, rfl, ⟨_, _, _, rfl, hP⟩, hb2⟩
                case o4 =>
                  refine GdOp.plain rfl (fun A vs w' hF hT hb hd => ?_)
                  obtain ⟨p1, p2, p3, ep, hp⟩ := hd ⟨1, .data⟩ (by simp) rfl
                  obtain ⟨r1, r2, r3, er, hr⟩ := hd ⟨3, .data⟩ (by simp) rfl
                  have x1 : A.eval (.tmp 121) = .slice p1 p2 p3 := (hT 121 1 (by simp) rfl).trans ep
                  have x2 : A.eval (.tmp 123) = .slice r1 r2 r3 := (hT 123 3 (by simp) rfl).trans er
                  refine wp_callFn rfl (enters_of Try.func19 (by kernel_rfl) rfl) (args := #[.slice p1 p2 p3, .slice r1 r2 r3]) (by simp only [List.map_toArray, List.map_cons, List.map_nil, x1, x2]) ((sameP_any w' hp hr).mono ?_)
                  rintro e w2 ⟨rfl, hb2⟩
                  exact ⟨_, rfl, _, rfl, congrArg Value.bool (decide_eq_true rfl), hb2⟩
                case o5 =>
                  refine GdOp.plain rfl (fun A vs w' hF hT hb hd => ?_)
                  have e1 : A.eval (.tmp 124) = .bool true := (hT 124 4 (by simp) rfl).trans (hd ⟨4, .data⟩ (by simp) rfl)
                  exact BigFrame.wp_assign _ rfl ⟨_, rfl, e1, Below.refl _ _⟩
                case fin =>
                  intro vs9 W9 hb hG
                  have y0 : vs9 0 = .agg #[.slice G1 nC.keys.length H1, .slice G2 nC.chains.length H2, .slice G3 nC.kids.length H3] := hG 0 (by decide)
                  have y2 : vs9 2 = .agg #[.slice XA1 na.keys.length YA1, .slice XA2 na.chains.length YA2, .slice XA3 na.kids.length YA3] := hG 2 (by decide)
                  have y4 : vs9 4 = .bool true := hG 4 (by decide)
                  have y5 : vs9 5 = .bool true := hG 5 (by decide)
                  simp only [putAll, y0, y2, y4, y5]
                  clear hG y0 y2 y4 y5
                  replace q := q.trans (hb.mono q.size)
                  replace hA := hA.below hb
                  replace hDn := hDn.below hb
                  replace hTA := hTA.below hb hTA.lt
                  replace hTD := hTD.below hb hTD.lt
                  clear hb
                  go_simp
                  clear hAz hCz
                  have hAz := hTA
                  have hDz := hTD
                  have hmdI : ((prN nD).length : Int) = ((prN na).length : Int) - 1 := by have := hMD.out; omega
                  go_upto_region 20 with (fail)
                  refine wp_region_gsa (by kernel_rfl) (by kernel_rfl) [sgEq (.bool true), sgEq (.bool true), sgEq (.int .i64 (0 : Nat)), sgEq (.bool true), sgEq (.bool true), sgEq (.bool true), sgEq (.int .i64 (0 : Nat)), sgEq (.bool true), sgEq (.bool true), sgEq (.bool true), sgEq (.bool true), sgEq (.bool true), sgEq (.bool true), sgEq (.agg #[.slice D1 nD.keys.length E1, .slice D2 nD.chains.length E2, .slice D3 nD.kids.length E3]), sgEq (.int .i64 ((prN nD).length : Nat)), sgEq (.agg #[.slice XA1 na.keys.length YA1, .slice XA2 na.chains.length YA2, .slice XA3 na.kids.length YA3]), sgEq (.int .i64 ((prN na).length : Nat)), sgEq (.int .i64 (((prN na).length : Int) - 1)), sgEq (.bool true), sgEq (.bool true), sgEq (.bool true)]
                    ⟨?o0, ?o1, ?o2, ?o3, ?o4, ?o5, ?o6, ?o7, ?o8, ?o9, ?o10, ?o11, ?o12, ?o13, ?o14, ?o15, ?o16, ?o17, ?o18, ?o19, ?o20, trivial⟩ ?fin
                  case o0 =>
                    refine GdOp.plain rfl (fun A vs w' hF hT hb hd => ?_)
                    have e1 : A.eval (.tmp 5) = .bool true := hF 5 rfl
                    exact BigFrame.wp_move _ rfl ⟨_, rfl, e1, Below.refl _ _⟩
                  case o1 =>
                    refine GdOp.plain rfl (fun A vs w' hF hT hb hd => ?_)
                    have e1 : A.eval (.tmp 125) = .bool true := (hT 125 0 (by simp) rfl).trans (hd ⟨0, .data⟩ (by simp) rfl)
                    exact BigFrame.wp_move _ rfl ⟨_, rfl, e1, Below.refl _ _⟩
                  case o2 =>
                    refine GdOp.taken rfl ⟨_, _, rfl, rfl, by simp⟩ (by kernel_rfl) (fun w v h => h) (fun A vs w' hF hT hb hd => ?_)
                    have e1 : A.eval (.tmp 17) = .int .i64 (0 : Nat) := hF 17 rfl
                    exact BigFrame.wp_move _ rfl ⟨_, rfl, e1, Below.refl _ _⟩
                  case o3 =>
                    refine GdOp.taken rfl ⟨_, _, rfl, rfl, by simp⟩ (by kernel_rfl) (fun w v h => h) (fun A vs w' hF hT hb hd => ?_)
                    have e1 : A.eval (.tmp 127) = .int .i64 (0 : Nat) := (hT 127 2 (by simp) rfl).trans (hd ⟨2, .data⟩ (by simp) rfl)
                    exact wp_eqlI rfl e1 rfl ⟨_, rfl, congrArg Value.bool (by simp), Below.refl _ _⟩
                  case o4 =>
                    refine GdOp.plain rfl (fun A vs w' hF hT hb hd => ?_)
                    have e1 : A.eval (.tmp 126) = .bool true := (hT 126 1 (by simp) rfl).trans (hd ⟨1, .data⟩ (by simp) rfl)
                    have e2 : A.eval (.tmp 128) = .bool true := (hT 128 3 (by simp) rfl).trans (hd ⟨3, .data⟩ (by simp) rfl)
                    exact wp_pk rfl e1 (fun _ => e2) (by simp) ⟨_, rfl, rfl, Below.refl _ _⟩
                  case o5 =>
                    refine GdOp.plain rfl (fun A vs w' hF hT hb hd => ?_)
                    have e1 : A.eval (.tmp 129) = .bool true := (hT 129 4 (by simp) rfl).trans (hd ⟨4, .data⟩ (by simp) rfl)
                    exact BigFrame.wp_move _ rfl ⟨_, rfl, e1, Below.refl _ _⟩
                  case o6 =>
                    refine GdOp.taken rfl ⟨_, _, rfl, rfl, by simp⟩ (by kernel_rfl) (fun w v h => h) (fun A vs w' hF hT hb hd => ?_)
                    have e1 : A.eval (.tmp 19) = .int .i64 (0 : Nat) := hF 19 rfl
                    exact BigFrame.wp_move _ rfl ⟨_, rfl, e1, Below.refl _ _⟩
                  case o7 =>
                    refine GdOp.taken rfl ⟨_, _, rfl, rfl, by simp⟩ (by kernel_rfl) (fun w v h => h) (fun A vs w' hF hT hb hd => ?_)
                    have e1 : A.eval (.tmp 131) = .int .i64 (0 : Nat) := (hT 131 6 (by simp) rfl).trans (hd ⟨6, .data⟩ (by simp) rfl)
                    exact wp_eqlI rfl e1 rfl ⟨_, rfl, congrArg Value.bool (by simp), Below.refl _ _⟩
                  case o8 =>
                    refine GdOp.plain rfl (fun A vs w' hF hT hb hd => ?_)
                    have e1 : A.eval (.tmp 130) = .bool true := (hT 130 5 (by simp) rfl).trans (hd ⟨5, .data⟩ (by simp) rfl)
                    have e2 : A.eval (.tmp 132) = .bool true := (hT 132 7 (by simp) rfl).trans (hd ⟨7, .data⟩ (by simp) rfl)
                    exact wp_pk rfl e1 (fun _ => e2) (by simp) ⟨_, rfl, rfl, Below.refl _ _⟩
                  case o9 =>
                    refine GdOp.plain rfl (fun A vs w' hF hT hb hd => ?_)
                    have e1 : A.eval (.tmp 133) = .bool true := (hT 133 8 (by simp) rfl).trans (hd ⟨8, .data⟩ (by simp) rfl)
                    exact BigFrame.wp_move _ rfl ⟨_, rfl, e1, Below.refl _ _⟩
                  case o10 =>
                    refine GdOp.taken rfl ⟨_, _, rfl, rfl, by simp⟩ (by kernel_rfl) (fun w v h => h) (fun A vs w' hF hT hb hd => ?_)
                    have e1 : A.eval (.tmp 20) = .bool true := hF 20 rfl
                    exact BigFrame.wp_move _ rfl ⟨_, rfl, e1, Below.refl _ _⟩
                  case o11 =>
                    refine GdOp.plain rfl (fun A vs w' hF hT hb hd => ?_)
                    have e1 : A.eval (.tmp 134) = .bool true := (hT 134 9 (by simp) rfl).trans (hd ⟨9, .data⟩ (by simp) rfl)
                    have e2 : A.eval (.tmp 135) = .bool true := (hT 135 10 (by simp) rfl).trans (hd ⟨10, .data⟩ (by simp) rfl)
                    exact wp_pk rfl e1 (fun _ => e2) (by simp) ⟨_, rfl, rfl, Below.refl _ _⟩
                  case o12 =>
                    refine GdOp.plain rfl (fun A vs w' hF hT hb hd => ?_)
                    have e1 : A.eval (.tmp 136) = .bool true := (hT 136 11 (by simp) rfl).trans (hd ⟨11, .data⟩ (by simp) rfl)
                    exact BigFrame.wp_move _ rfl ⟨_, rfl, e1, Below.refl _ _⟩
                  case o13 =>
                    refine GdOp.taken rfl ⟨_, _, rfl, rfl, by simp⟩ (by kernel_rfl) (fun w v h => h) (fun A vs w' hF hT hb hd => ?_)
                    have e1 : A.eval (.tmp 16) = .pointer (some ⟨bD, 0, none⟩) := hF 16 rfl
                    have hb3 := hDz.below hb hDz.lt
                    exact wp_load3 ndS rfl e1 hb3.cell0 hb3.cell1 hb3.cell2 ⟨_, rfl, rfl, Below.refl _ _⟩
                  case o14 =>
                    refine GdOp.taken rfl ⟨_, _, rfl, rfl, by simp⟩ (by kernel_rfl) (fun w v h => h) (fun A vs w' hF hT hb hd => ?_)
                    have e1 : A.eval (.tmp 138) = .agg #[.slice D1 nD.keys.length E1, .slice D2 nD.chains.length E2, .slice D3 nD.kids.length E3] := (hT 138 13 (by simp) rfl).trans (hd ⟨13, .data⟩ (by simp) rfl)
                    refine wp_callFn rfl (enters_of Try.func24 (by kernel_rfl) rfl) (args := #[.agg #[.slice D1 nD.keys.length E1, .slice D2 nD.chains.length E2, .slice D3 nD.kids.length E3]]) (by simp [e1]) ((hC.many w' (hDn.below hb) fitD).mono ?_)
                    rintro e w2 ⟨rfl, hb2⟩
                    exact ⟨_, rfl, _, rfl, rfl, hb2⟩
                  case o15 =>
                    refine GdOp.taken rfl ⟨_, _, rfl, rfl, by simp⟩ (by kernel_rfl) (fun w v h => h) (fun A vs w' hF hT hb hd => ?_)
                    have e1 : A.eval (.tmp 6) = .pointer (some ⟨ba, 0, none⟩) := hF 6 rfl
                    have hb3 := hAz.below hb hAz.lt
                    exact wp_load3 ndS rfl e1 hb3.cell0 hb3.cell1 hb3.cell2 ⟨_, rfl, rfl, Below.refl _ _⟩
                  case o16 =>
                    refine GdOp.taken rfl ⟨_, _, rfl, rfl, by simp⟩ (by kernel_rfl) (fun w v h => h) (fun A vs w' hF hT hb hd => ?_)
                    have e1 : A.eval (.tmp 140) = .agg #[.slice XA1 na.keys.length YA1, .slice XA2 na.chains.length YA2, .slice XA3 na.kids.length YA3] := (hT 140 15 (by simp) rfl).trans (hd ⟨15, .data⟩ (by simp) rfl)
                    refine wp_callFn rfl (enters_of Try.func24 (by kernel_rfl) rfl) (args := #[.agg #[.slice XA1 na.keys.length YA1, .slice XA2 na.chains.length YA2, .slice XA3 na.kids.length YA3]]) (by simp [e1]) ((hC.many w' (hA.below hb) fitA).mono ?_)
                    rintro e w2 ⟨rfl, hb2⟩
                    exact ⟨_, rfl, _, rfl, rfl, hb2⟩
                  case o17 =>
                    refine GdOp.taken rfl ⟨_, _, rfl, rfl, by simp⟩ (by kernel_rfl) (fun w v h => h) (fun A vs w' hF hT hb hd => ?_)
                    have e1 : A.eval (.tmp 141) = .int .i64 ((prN na).length : Nat) := (hT 141 16 (by simp) rfl).trans (hd ⟨16, .data⟩ (by simp) rfl)
                    exact wp_subJ rfl e1 rfl (by omega) (by omega) ⟨_, rfl, rfl, Below.refl _ _⟩
                  case o18 =>
                    refine GdOp.taken rfl ⟨_, _, rfl, rfl, by simp⟩ (by kernel_rfl) (fun w v h => h) (fun A vs w' hF hT hb hd => ?_)
                    have e1 : A.eval (.tmp 139) = .int .i64 ((prN nD).length : Nat) := (hT 139 14 (by simp) rfl).trans (hd ⟨14, .data⟩ (by simp) rfl)
                    have e2 : A.eval (.tmp 142) = .int .i64 (((prN na).length : Int) - 1) := (hT 142 17 (by simp) rfl).trans (hd ⟨17, .data⟩ (by simp) rfl)
                    exact wp_eqlI rfl e1 e2 ⟨_, rfl, congrArg Value.bool (by rw [hmdI]; simp), Below.refl _ _⟩
                  case o19 =>
                    refine GdOp.plain rfl (fun A vs w' hF hT hb hd => ?_)
                    have e1 : A.eval (.tmp 137) = .bool true := (hT 137 12 (by simp) rfl).trans (hd ⟨12, .data⟩ (by simp) rfl)
                    have e2 : A.eval (.tmp 143) = .bool true := (hT 143 18 (by simp) rfl).trans (hd ⟨18, .data⟩ (by simp) rfl)
                    exact wp_pk rfl e1 (fun _ => e2) (by simp) ⟨_, rfl, rfl, Below.refl _ _⟩
                  case o20 =>
                    refine GdOp.plain rfl (fun A vs w' hF hT hb hd => ?_)
                    have e1 : A.eval (.tmp 144) = .bool true := (hT 144 19 (by simp) rfl).trans (hd ⟨19, .data⟩ (by simp) rfl)
                    exact BigFrame.wp_assign _ rfl ⟨_, rfl, e1, Below.refl _ _⟩
                  case fin =>
                    intro A vs w' hA5 hb hG
                    have e4 : A.eval (.tmp 4) = .bool true := (hA5.2.2.2 4 20 (by simp) rfl).trans (hG 20 (by decide))
                    have hd : A.defers = [] := hA5.1
                    clear hG hA5
                    go_wp2
                    refine bodyPost_ret (v := .bool true) ?_ hd ⟨rfl, q.trans (hb.mono q.size)⟩
                    rw [← e4]
                    exact results_tmp rfl _ _ _
      · have hAz := hTA
        have hBz := hTB
        go_upto_region 14 with (fail)
        have fitA1 : fitN na := fitA
        refine wp_region_gsg (by kernel_rfl) (by kernel_rfl) [sgEq (.agg #[.slice XA1 na.keys.length YA1, .slice XA2 na.chains.length YA2, .slice XA3 na.kids.length YA3]), sgVP (prN na), sgEq (.agg #[.slice XB1 nb.keys.length YB1, .slice XB2 nb.chains.length YB2, .slice XB3 nb.kids.length YB3]), sgVP (prN na), sgEq (.bool true), sgEq (.bool true)]
          ⟨?o0, ?o1, ?o2, ?o3, ?o4, ?o5, trivial⟩ ?fin
        case o0 =>
          refine GdOp.plain rfl (fun A vs w' hF hT hb hd => ?_)
          have e1 : A.eval (.tmp 6) = .pointer (some ⟨ba, 0, none⟩) := hF 6 rfl
          have hb3 := hAz.below hb hAz.lt
          exact wp_load3 ndS rfl e1 hb3.cell0 hb3.cell1 hb3.cell2 ⟨_, rfl, rfl, Below.refl _ _⟩
        case o1 =>
          refine GdOp.plain rfl (fun A vs w' hF hT hb hd => ?_)
          have e1 : A.eval (.tmp 80) = .agg #[.slice XA1 na.keys.length YA1, .slice XA2 na.chains.length YA2, .slice XA3 na.kids.length YA3] := (hT 80 0 (by simp) rfl).trans (hd ⟨0, .data⟩ (by simp) rfl)
          refine wp_callFn rfl (enters_of Try.func20 (by kernel_rfl) rfl) (args := #[.agg #[.slice XA1 na.keys.length YA1, .slice XA2 na.chains.length YA2, .slice XA3 na.kids.length YA3]]) (by simp [e1]) ((lawPairs_any hC w' (hA.below hb) fitA (by omega)).mono ?_)
          rintro e w2 ⟨ap, np, cp, rfl, hP, hb2⟩
          exact ⟨_, rfl, _, rfl, ⟨_, _, _, rfl, hP⟩, hb2⟩
        case o2 =>
          refine GdOp.plain rfl (fun A vs w' hF hT hb hd => ?_)
          have e1 : A.eval (.tmp 7) = .pointer (some ⟨bb, 0, none⟩) := hF 7 rfl
          have hb3 := hBz.below hb hBz.lt
          exact wp_load3 ndS rfl e1 hb3.cell0 hb3.cell1 hb3.cell2 ⟨_, rfl, rfl, Below.refl _ _⟩
        case o3 =>
          refine GdOp.plain rfl (fun A vs w' hF hT hb hd => ?_)
          have e1 : A.eval (.tmp 82) = .agg #[.slice XB1 nb.keys.length YB1, .slice XB2 nb.chains.length YB2, .slice XB3 nb.kids.length YB3] := (hT 82 2 (by simp) rfl).trans (hd ⟨2, .data⟩ (by simp) rfl)
          refine wp_callFn rfl (enters_of Try.func20 (by kernel_rfl) rfl) (args := #[.agg #[.slice XB1 nb.keys.length YB1, .slice XB2 nb.chains.length YB2, .slice XB3 nb.kids.length YB3]]) (by simp [e1]) ((lawPairs_any hC w' (hB.below hb) fitB (by rw [hpB.out]; omega)).mono ?_)
          rintro e w2 ⟨ap, np, cp, rfl, hP, hb2⟩
          rw [hpB.out] at hP
          exact ⟨_, rfl, _, rfl, ⟨_, _, _, rfl, hP⟩, hb2⟩
        case o4 =>
          refine GdOp.plain rfl (fun A vs w' hF hT hb hd => ?_)
          obtain ⟨p1, p2, p3, ep, hp⟩ := hd ⟨1, .data⟩ (by simp) rfl
          obtain ⟨r1, r2, r3, er, hr⟩ := hd ⟨3, .data⟩ (by simp) rfl
          have x1 : A.eval (.tmp 81) = .slice p1 p2 p3 := (hT 81 1 (by simp) rfl).trans ep
          have x2 : A.eval (.tmp 83) = .slice r1 r2 r3 := (hT 83 3 (by simp) rfl).trans er
          refine wp_callFn rfl (enters_of Try.func19 (by kernel_rfl) rfl) (args := #[.slice p1 p2 p3, .slice r1 r2 r3]) (by simp only [List.map_toArray, List.map_cons, List.map_nil, x1, x2]) ((sameP_any w' hp hr).mono ?_)
          rintro e w2 ⟨rfl, hb2⟩
          exact ⟨_, rfl, _, rfl, congrArg Value.bool (decide_eq_true rfl), hb2⟩
        case o5 =>
          refine GdOp.plain rfl (fun A vs w' hF hT hb hd => ?_)
          have e1 : A.eval (.tmp 84) = .bool true := (hT 84 4 (by simp) rfl).trans (hd ⟨4, .data⟩ (by simp) rfl)
          exact BigFrame.wp_assign _ rfl ⟨_, rfl, e1, Below.refl _ _⟩
        case fin =>
          intro vs9 W9 hb hG
          have y0 : vs9 0 = .agg #[.slice XA1 na.keys.length YA1, .slice XA2 na.chains.length YA2, .slice XA3 na.kids.length YA3] := hG 0 (by decide)
          have y2 : vs9 2 = .agg #[.slice XB1 nb.keys.length YB1, .slice XB2 nb.chains.length YB2, .slice XB3 nb.kids.length YB3] := hG 2 (by decide)
          have y4 : vs9 4 = .bool true := hG 4 (by decide)
          have y5 : vs9 5 = .bool true := hG 5 (by decide)
          simp only [putAll, y0, y2, y4, y5]
          clear hG y0 y2 y4 y5
          replace q := q.trans (hb.mono q.size)
          replace hA := hA.below hb
          replace hB := hB.below hb
          replace hTA := hTA.below hb hTA.lt
          replace hTB := hTB.below hb hTB.lt
          clear hb
          go_simp
          clear hAz hBz tA0 tA1 tA2 tB0 tB1 tB2
          have tA0 := hTA.cell0
          have tA1 := hTA.cell1
          have tA2 := hTA.cell2
          by_cases h0 : l.length = 0
          · have d7 : ((l.length : Int) == 0) = true := by rw [beq_iff_eq]; omega
            go_wp2_with fail
            go_ret
            exact ⟨rfl, q⟩
          · have d7 : ((l.length : Int) == 0) = false := by rw [beq_eq_false_iff_ne]; omega
            have hi0 : 0 < i := by have := hN.out; omega
            have hl0 : 0 < l.length := by omega
            clear h0
            obtain ⟨b, off, ea, hbB, hcl⟩ := hl.cellAt 0 (by omega)
            subst ea
            have hci : w.cell? ⟨b, off, none⟩ = some (.int .u8 ((f 0).toNat : Int)) := by
              have := hcl 0 (by omega)
              rw [Nat.add_zero] at this
              rw [this, hf.out]
              simp [List.getD_eq_getElem?_getD, List.getElem?_eq_getElem (show 0 < l.length by omega)]
            have hc256 : ((f 0).toNat : Int) ≤ 255 := by have := (f 0).toNat_lt; omega
            have hfd := fA.found hi0
            have hsA := okN_srt fA.ok
            have hD0 : ∀ mm er, DelIs na [f 0] mm er → er = 0 ∧ okN mm ∧ pairsN mm = delP (pairsN na) [f 0] := fun mm er h => by
              unfold DelIs at h
              rw [if_pos fA.ok, hfd, if_pos (by rfl)] at h
              exact h
            have hAz := hTA
            go_upto_region 17 with (fail)
            clear d7
            refine wp_region_setl (K := fun _ _ => True) (by kernel_rfl) (by kernel_rfl) [4, 5, 6, 7, 8, 9, 10] (by kernel_rfl) [lEq (.agg #[.slice XA1 na.keys.length YA1, .slice XA2 na.chains.length YA2, .slice XA3 na.kids.length YA3]), lEq (.slice (some ⟨b, off, none⟩) l.length lc), lEq (.pointer (some ⟨b, off + 0 * 1, none⟩)), lEq (.int .u8 ((f 0).toNat : Int)), lAny, lAny, lAny, lAny, lAny, lAny, lAny, lEq (.int .i64 (0 : Nat))]
              (CbK (bv ([f 0])).toArray 5 (NodeR (DelIs na [f 0])) zNode NodeB (KeyW ([f 0])) (VerW ([])) W9) (CbK.more (stays (DelIs na [f 0]) ([f 0]) ([]))) (CbS.start _)
              ⟨?o0, ?o1, ?o2, ?o3, ?o4, ?o5, ?o6, ?o7, ?o8, ?o9, ?o10, ?o11, trivial⟩ ?fin
            case o0 =>
              refine StOp.free rfl (by kernel_rfl) (fun A va D w' hF hT hN hE hd hu hg => ?_)
              have e1 : A.eval (.tmp 6) = .pointer (some ⟨ba, 0, none⟩) := hF 6 rfl
              exact wp_load3 ndS rfl (e1) ((hAz.below (CbK.below hE) hAz.lt).cell0) ((hAz.below (CbK.below hE) hAz.lt).cell1) ((hAz.below (CbK.below hE) hAz.lt).cell2) ⟨_, rfl, rfl, Below.refl _ _⟩
            case o1 =>
              refine StOp.free rfl (by kernel_rfl) (fun A va D w' hF hT hN hE hd hu hg => ?_)
              have e1 : A.eval (.tmp 0) = .slice (some ⟨b, off, none⟩) l.length lc := hF 0 rfl
              exact BigFrame.wp_move _ rfl ⟨_, rfl, e1, Below.refl _ _⟩
            case o2 =>
              refine StOp.free rfl (by kernel_rfl) (fun A va D w' hF hT hN hE hd hu hg => ?_)
              have e1 : A.eval (.tmp 98) = .slice (some ⟨b, off, none⟩) l.length lc := (hT 98 1 (by simp) rfl).trans (hg ⟨1, .data⟩ (by simp) rfl rfl)
              exact wp_ixN (e := 5) rfl (by kernel_rfl) (by kernel_rfl) (e1) (rfl) rfl (by omega) ⟨_, rfl, rfl, Below.refl _ _⟩
            case o3 =>
              refine StOp.free rfl (by kernel_rfl) (fun A va D w' hF hT hN hE hd hu hg => ?_)
              have e1 : A.eval (.tmp 99) = .pointer (some ⟨b, off + 0 * 1, none⟩) := (hT 99 2 (by simp) rfl).trans (hg ⟨2, .data⟩ (by simp) rfl rfl)
              exact wp_ld_int (k := .u8) rfl (e1) (by kernel_rfl) (by simpa using (((q.trans ((CbK.below hE).mono q.size)).cell (p := ⟨b, off, none⟩) hbB).trans hci)) ⟨_, rfl, rfl, Below.refl _ _⟩
            case o4 =>
              refine StOp.set rfl (by kernel_rfl) (fun A va D w' hF hT hN hE hd hu hg => ?_)
              have e1 : A.eval (.tmp 100) = .int .u8 ((f 0).toNat : Int) := (hT 100 3 (by simp) rfl).trans (hg ⟨3, .data⟩ (by simp) rfl rfl)
              have hE2 := hE
              simp only [told, List.map_cons, List.map_nil, hN, Bool.false_eq_true, if_false] at hE2
              refine wp_build byP rfl [f 0] (by simp [bv, e1]) rfl (by simp) (fun g2 k2 w2 hf2 => ?_)
              obtain rfl : k2 = 1 := hf2.2.rdS.len.1
              have h5 := CbS.key (stays (DelIs na [f 0]) ([f 0]) ([])) hE2 rfl hf2.1 (u := .slice (some ⟨g2, 0, none⟩) 1 1) ⟨_, _, rfl, hf2.2.rdS⟩
              exact ⟨_, rfl, by simpa [CbK, told, don, upd, bv_length] using h5, trivial⟩
            case o5 =>
              refine StOp.set rfl (by kernel_rfl) (fun A va D w' hF hT hN hE hd hu hg => ?_)
              have e1 : A.eval (.tmp 97) = .agg #[.slice XA1 na.keys.length YA1, .slice XA2 na.chains.length YA2, .slice XA3 na.kids.length YA3] := (hT 97 0 (by simp) rfl).trans (hg ⟨0, .data⟩ (by simp) rfl rfl)
              have x2 : A.eval (.tmp 101) = va 4 := hT 101 4 (by simp) rfl
              have hE2 := hE
              have d4 : D 4 = true := hd ⟨4, .data⟩ (by simp) rfl
              simp only [told, List.map_cons, List.map_nil, hN, d4, Bool.false_eq_true, if_false, if_true] at hE2
              have hBE := hE2.be
              obtain ⟨ka, kc, ek, hkr⟩ := hE2.k1 _ rfl
              refine wp_callFn rfl eD (args := #[.agg #[.slice XA1 na.keys.length YA1, .slice XA2 na.chains.length YA2, .slice XA3 na.kids.length YA3], .slice ka [f 0].length kc]) (by simp only [List.map_toArray, List.map_cons, List.map_nil, e1, x2.trans ek]) ((hC.delete w' (hA.below hBE) fitA hkr (by simp)).mono ?_)
              rintro e w2 ⟨v, n2, er, rfl, hq, hrd, hb2⟩
              have h5 := CbS.call (stays (DelIs na [f 0]) ([f 0]) ([])) hE2 (by simp) hb2 (v := v) (e := .int .i64 (er : Nat)) ⟨n2, er, rfl, hq, hrd⟩
              exact ⟨_, rfl, _, rfl, by simpa [CbK, told, don, upd, bv_length, d4] using h5, trivial⟩
            case o6 =>
              refine StOp.set rfl (by kernel_rfl) (fun A va D w' hF hT hN hE hd hu hg => ?_)
              have x1 : A.eval (.tmp 102) = va 5 := hT 102 5 (by simp) rfl
              have hE2 := hE
              have d5 : D 5 = true := hd ⟨5, .data⟩ (by simp) rfl
              simp only [told, List.map_cons, List.map_nil, hN, d5, Bool.false_eq_true, if_false, if_true] at hE2
              have h5 := CbS.move hE2
              exact BigFrame.wp_move _ rfl ⟨_, rfl, by rw [x1]; simpa [CbK, told, don, upd, bv_length, d5] using h5, trivial⟩
            case o7 =>
              refine StOp.set rfl (by kernel_rfl) (fun A va D w' hF hT hN hE hd hu hg => ?_)
              have x1 : A.eval (.tmp 96) = va 6 := hT 96 6 (by simp) rfl
              have hE2 := hE
              have d6 : D 6 = true := hd ⟨6, .data⟩ (by simp) rfl
              simp only [told, List.map_cons, List.map_nil, hN, d6, Bool.false_eq_true, if_false, if_true] at hE2
              obtain ⟨v, e, em⟩ := CbS.tup hE2
              rw [em] at hE2
              have h5 := CbS.ex0 hE2
              exact wp_ex rfl (x1.trans em) rfl ⟨_, rfl, by simpa [CbK, told, don, upd, d6, em] using h5, trivial⟩
            case o8 =>
              refine StOp.set rfl (by kernel_rfl) (fun A va D w' hF hT hN hE hd hu hg => ?_)
              have x1 : A.eval (.tmp 96) = va 6 := hT 96 6 (by simp) rfl
              have hE2 := hE
              have d6 : D 6 = true := hd ⟨6, .data⟩ (by simp) rfl
              simp only [told, List.map_cons, List.map_nil, hN, d6, Bool.false_eq_true, if_false, if_true] at hE2
              obtain ⟨v, e, em⟩ := CbS.tup hE2
              rw [em] at hE2
              have h5 := CbS.ex1 hE2
              exact wp_ex rfl (x1.trans em) rfl ⟨_, rfl, by simpa [CbK, told, don, upd, d6, em] using h5, trivial⟩
            case o9 =>
              refine StOp.set rfl (by kernel_rfl) (fun A va D w' hF hT hN hE hd hu hg => ?_)
              have hE2 := hE
              simp only [told, List.map_cons, List.map_nil, hN, Bool.false_eq_true, if_false] at hE2
              refine wp_allocN rfl (fun w2 hb2 hz => ⟨_, rfl, ?_, trivial⟩)
              have h5 := CbS.alloc (stays (DelIs na [f 0]) ([f 0]) ([])) hE2 hb2 hz
              simpa [CbK, told, don, upd, bv_length] using h5
            case o10 =>
              refine StOp.set rfl (by kernel_rfl) (fun A va D w' hF hT hN hE hd hu hg => ?_)
              have x1 : A.eval (.tmp 16) = va 9 := hT 16 9 (by simp) rfl
              have x2 : A.eval (.tmp 103) = va 7 := hT 103 7 (by simp) rfl
              have hE2 := hE
              have d9 : D 9 = true := hd ⟨9, .data⟩ (by simp) rfl
              have d7 : D 7 = true := hd ⟨7, .data⟩ (by simp) rfl
              simp only [told, List.map_cons, List.map_nil, hN, d9, d7, Bool.false_eq_true, if_false, if_true] at hE2
              obtain ⟨b, eb, hb0⟩ := CbS.box hE2
              obtain ⟨e, hm⟩ := hE2.mx _ rfl
              obtain ⟨v, e2, ec, n2, er, _, _, hrd⟩ := hE2.rr _ (hE2.mv _ hm)
              obtain ⟨A1, B1, A2, B2, A3, B3, ev, _⟩ := id hrd
              injection ec with ec
              injection ec with ec
              injection ec with ec _
              rw [← ec] at ev
              refine wp_storeT rfl (x1.trans eb) (x2.trans ev) rfl rfl rfl hb0 (fun w2 hg2 ht2 => ⟨_, rfl, ?_, trivial⟩)
              rw [eb] at hE2
              have h5 := CbS.sto (u := undef) (stays (DelIs na [f 0]) ([f 0]) ([])) hE2 hg2 ⟨_, _, _, ev, ht2⟩
              simpa [CbK, told, don, upd, d9, d7, eb] using h5
            case o11 =>
              refine StOp.free rfl (by kernel_rfl) (fun A va D w' hF hT hN hE hd hu hg => ?_)
              have x1 : A.eval (.tmp 104) = va 8 := hT 104 8 (by simp) rfl
              have hE2 := hE
              have d8 : D 8 = true := hd ⟨8, .data⟩ (by simp) rfl
              simp only [told, List.map_cons, List.map_nil, d8, if_true] at hE2
              have ee := CbS.err hE2 (fun n er hQ => (hD0 _ _ hQ).1)
              exact BigFrame.wp_assign _ rfl ⟨_, rfl, x1.trans ee, Below.refl _ _⟩
            case fin =>
              intro vsD WD hE hG
              obtain ⟨bD, ez, em, ec, hbD, hBx, hR, hbE⟩ := CbS.done (nodeR _) hE (by simp)
              obtain ⟨nD, er, ee, hQ, hDn⟩ := hR
              have her : er = 0 := (hD0 _ _ hQ).1
              rw [her] at ee hQ
              clear her
              obtain ⟨x1, y1, z1, ev, hTD⟩ := hBx
              have g0 : vsD 0 = .agg #[.slice XA1 na.keys.length YA1, .slice XA2 na.chains.length YA2, .slice XA3 na.kids.length YA3] := hG 0 (by decide) rfl
              have g1 : vsD 1 = .slice (some ⟨b, off, none⟩) l.length lc := hG 1 (by decide) rfl
              have g2 : vsD 2 = .pointer (some ⟨b, off + 0 * 1, none⟩) := hG 2 (by decide) rfl
              have g3 : vsD 3 = .int .u8 ((f 0).toNat : Int) := hG 3 (by decide) rfl
              have g11 : vsD 11 = .int .i64 (0 : Nat) := hG 11 (by decide) rfl
              simp only [putAll, g0, g1, g2, g3, g11, ec, em, ev, ee, ez]
              rw [ev] at hDn
              obtain ⟨_, okD, prD⟩ := hD0 _ _ hQ
              obtain ⟨D1, E1, D2, E2, D3, E3, e3, _, _, _⟩ := id hDn
              injection e3 with e3
              injection e3 with e3
              injection e3 with e4 e3
              injection e3 with e5 e3
              injection e3 with e6 _
              subst e4 e5 e6
              replace hDn := hDn.weak (S' := fun _ => True) fun _ _ => trivial
              clear hE hG ec em ev ee ez g0 g1 g2 g3 g11 hQ hD0 hAz
              replace q := q.trans (hbE.mono q.size)
              replace hTA := hTA.below hbE hTA.lt
              replace hA := hA.below hbE
              clear hbE tA0 tA1 tA2 hB hTB
              have fitD : fitN nD := ok_fit okD (by rw [prD]; exact few_del ⟨by have := fA.len; omega, fA.sm⟩ _)
              have hP0 : ∀ mm er, PutIs nD [f 0] (valK (f 0)) mm er → er = 0 ∧ okN mm ∧ pairsN mm = pairsN na := fun mm er h => by
                unfold PutIs at h
                rw [if_pos ⟨okD, by simp, valK_ok _, valK_ne _⟩, prD, del_put hsA hfd] at h
                exact h
              have hMD : (prN nD).length + 1 = (prN na).length := by
                rw [show prN nD = pairsN nD from if_pos okD, prD, hpA.out]
                have := del_len hsA (k := [f 0])
                rw [hfd] at this
                exact this
              have hDz := hTD
              go_simp
              have tD0 := hTD.cell0
              have tD1 := hTD.cell1
              have tD2 := hTD.cell2
              go_upto_region 18 with (fail)
              refine wp_region_setl (K := fun _ _ => True) (by kernel_rfl) (by kernel_rfl) [4, 10, 11, 12, 13, 14, 15, 16] (by kernel_rfl) [lEq (.agg #[.slice D1 nD.keys.length E1, .slice D2 nD.chains.length E2, .slice D3 nD.kids.length E3]), lEq (.slice (some ⟨b, off, none⟩) l.length lc), lEq (.pointer (some ⟨b, off + 0 * 1, none⟩)), lEq (.int .u8 ((f 0).toNat : Int)), lAny, lEq (.slice (some ⟨b, off, none⟩) l.length lc), lEq (.pointer (some ⟨b, off + 0 * 1, none⟩)), lEq (.int .u8 ((f 0).toNat : Int)), lEq (.int .i64 ((f 0).toNat : Int)), lEq (.int .i64 (1 + ((f 0).toNat : Int))), lAny, lAny, lAny, lAny, lAny, lAny, lAny, lEq (.int .i64 (0 : Nat))]
                (CbK (bv ([f 0])).toArray 5 (NodeR (PutIs nD [f 0] (valK (f 0)))) zNode NodeB (KeyW ([f 0])) (VerW (valK (f 0))) WD) (CbK.more (stays (PutIs nD [f 0] (valK (f 0))) ([f 0]) (valK (f 0)))) (CbS.start _)
                ⟨?o0, ?o1, ?o2, ?o3, ?o4, ?o5, ?o6, ?o7, ?o8, ?o9, ?o10, ?o11, ?o12, ?o13, ?o14, ?o15, ?o16, ?o17, trivial⟩ ?fin
              case o0 =>
                refine StOp.free rfl (by kernel_rfl) (fun A va D w' hF hT hN hE hd hu hg => ?_)
                have e1 : A.eval (.tmp 16) = .pointer (some ⟨bD, 0, none⟩) := hF 16 rfl
                exact wp_load3 ndS rfl (e1) ((hDz.below (CbK.below hE) hDz.lt).cell0) ((hDz.below (CbK.below hE) hDz.lt).cell1) ((hDz.below (CbK.below hE) hDz.lt).cell2) ⟨_, rfl, rfl, Below.refl _ _⟩
              case o1 =>
                refine StOp.free rfl (by kernel_rfl) (fun A va D w' hF hT hN hE hd hu hg => ?_)
                have e1 : A.eval (.tmp 0) = .slice (some ⟨b, off, none⟩) l.length lc := hF 0 rfl
                exact BigFrame.wp_move _ rfl ⟨_, rfl, e1, Below.refl _ _⟩
              case o2 =>
                refine StOp.free rfl (by kernel_rfl) (fun A va D w' hF hT hN hE hd hu hg => ?_)
                have e1 : A.eval (.tmp 107) = .slice (some ⟨b, off, none⟩) l.length lc := (hT 107 1 (by simp) rfl).trans (hg ⟨1, .data⟩ (by simp) rfl rfl)
                exact wp_ixN (e := 5) rfl (by kernel_rfl) (by kernel_rfl) (e1) (rfl) rfl (by omega) ⟨_, rfl, rfl, Below.refl _ _⟩
              case o3 =>
                refine StOp.free rfl (by kernel_rfl) (fun A va D w' hF hT hN hE hd hu hg => ?_)
                have e1 : A.eval (.tmp 108) = .pointer (some ⟨b, off + 0 * 1, none⟩) := (hT 108 2 (by simp) rfl).trans (hg ⟨2, .data⟩ (by simp) rfl rfl)
                exact wp_ld_int (k := .u8) rfl (e1) (by kernel_rfl) (by simpa using (((q.trans ((CbK.below hE).mono q.size)).cell (p := ⟨b, off, none⟩) hbB).trans hci)) ⟨_, rfl, rfl, Below.refl _ _⟩
              case o4 =>
                refine StOp.set rfl (by kernel_rfl) (fun A va D w' hF hT hN hE hd hu hg => ?_)
                have e1 : A.eval (.tmp 109) = .int .u8 ((f 0).toNat : Int) := (hT 109 3 (by simp) rfl).trans (hg ⟨3, .data⟩ (by simp) rfl rfl)
                have hE2 := hE
                simp only [told, List.map_cons, List.map_nil, hN, Bool.false_eq_true, if_false] at hE2
                refine wp_build byP rfl [f 0] (by simp [bv, e1]) rfl (by simp) (fun g2 k2 w2 hf2 => ?_)
                obtain rfl : k2 = 1 := hf2.2.rdS.len.1
                have h5 := CbS.key (stays (PutIs nD [f 0] (valK (f 0))) ([f 0]) (valK (f 0))) hE2 rfl hf2.1 (u := .slice (some ⟨g2, 0, none⟩) 1 1) ⟨_, _, rfl, hf2.2.rdS⟩
                exact ⟨_, rfl, by simpa [CbK, told, don, upd, bv_length] using h5, trivial⟩
              case o5 =>
                refine StOp.free rfl (by kernel_rfl) (fun A va D w' hF hT hN hE hd hu hg => ?_)
                have e1 : A.eval (.tmp 0) = .slice (some ⟨b, off, none⟩) l.length lc := hF 0 rfl
                exact BigFrame.wp_move _ rfl ⟨_, rfl, e1, Below.refl _ _⟩
              case o6 =>
                refine StOp.free rfl (by kernel_rfl) (fun A va D w' hF hT hN hE hd hu hg => ?_)
                have e1 : A.eval (.tmp 111) = .slice (some ⟨b, off, none⟩) l.length lc := (hT 111 5 (by simp) rfl).trans (hg ⟨5, .data⟩ (by simp) rfl rfl)
                exact wp_ixN (e := 5) rfl (by kernel_rfl) (by kernel_rfl) (e1) (rfl) rfl (by omega) ⟨_, rfl, rfl, Below.refl _ _⟩
              case o7 =>
                refine StOp.free rfl (by kernel_rfl) (fun A va D w' hF hT hN hE hd hu hg => ?_)
                have e1 : A.eval (.tmp 112) = .pointer (some ⟨b, off + 0 * 1, none⟩) := (hT 112 6 (by simp) rfl).trans (hg ⟨6, .data⟩ (by simp) rfl rfl)
                exact wp_ld_int (k := .u8) rfl (e1) (by kernel_rfl) (by simpa using (((q.trans ((CbK.below hE).mono q.size)).cell (p := ⟨b, off, none⟩) hbB).trans hci)) ⟨_, rfl, rfl, Below.refl _ _⟩
              case o8 =>
                refine StOp.free rfl (by kernel_rfl) (fun A va D w' hF hT hN hE hd hu hg => ?_)
                have e1 : A.eval (.tmp 113) = .int .u8 ((f 0).toNat : Int) := (hT 113 7 (by simp) rfl).trans (hg ⟨7, .data⟩ (by simp) rfl rfl)
                exact wp_convU8 rfl (by kernel_rfl) (by kernel_rfl) e1 (by omega) (by omega) ⟨_, rfl, rfl, Below.refl _ _⟩
              case o9 =>
                refine StOp.free rfl (by kernel_rfl) (fun A va D w' hF hT hN hE hd hu hg => ?_)
                have e2 : A.eval (.tmp 114) = .int .i64 ((f 0).toNat : Int) := (hT 114 8 (by simp) rfl).trans (hg ⟨8, .data⟩ (by simp) rfl rfl)
                exact wp_addI rfl (rfl) (e2) (by omega) (by omega) ⟨_, rfl, rfl, Below.refl _ _⟩
              case o10 =>
                refine StOp.set rfl (by kernel_rfl) (fun A va D w' hF hT hN hE hd hu hg => ?_)
                have e1 : A.eval (.tmp 115) = .int .i64 (1 + ((f 0).toNat : Int)) := (hT 115 9 (by simp) rfl).trans (hg ⟨9, .data⟩ (by simp) rfl rfl)
                have hE2 := hE
                simp only [told, List.map_cons, List.map_nil, hN, Bool.false_eq_true, if_false] at hE2
                refine wp_callFn rfl eO (args := #[.int .i64 (1 + ((f 0).toNat : Int))]) (by simp only [List.map_toArray, List.map_cons, List.map_nil, e1]) ((one_any w' (s := 1 + ((f 0).toNat : Int)) ⟨by omega, by omega⟩).mono ?_)
                rintro e w2 ⟨a2, c2, rfl, hv2, hb2⟩
                have h5 := CbS.vers (stays (PutIs nD [f 0] (valK (f 0))) ([f 0]) (valK (f 0))) hE2 hb2 (u := .slice a2 1 c2) ⟨_, _, rfl, hv2⟩
                exact ⟨_, rfl, _, rfl, by simpa [CbK, told, don, upd] using h5, trivial⟩
              case o11 =>
                refine StOp.set rfl (by kernel_rfl) (fun A va D w' hF hT hN hE hd hu hg => ?_)
                have e1 : A.eval (.tmp 106) = .agg #[.slice D1 nD.keys.length E1, .slice D2 nD.chains.length E2, .slice D3 nD.kids.length E3] := (hT 106 0 (by simp) rfl).trans (hg ⟨0, .data⟩ (by simp) rfl rfl)
                have x2 : A.eval (.tmp 110) = va 4 := hT 110 4 (by simp) rfl
                have x3 : A.eval (.tmp 116) = va 10 := hT 116 10 (by simp) rfl
                have hE2 := hE
                have d4 : D 4 = true := hd ⟨4, .data⟩ (by simp) rfl
                have d10 : D 10 = true := hd ⟨10, .data⟩ (by simp) rfl
                simp only [told, List.map_cons, List.map_nil, hN, d4, d10, Bool.false_eq_true, if_false, if_true] at hE2
                have hBE := hE2.be
                obtain ⟨ka, kc, ek, hkr⟩ := hE2.k1 _ rfl
                obtain ⟨va2, vc, ev, hvr⟩ := hE2.k2 _ rfl
                refine wp_callFn rfl eP (args := #[.agg #[.slice D1 nD.keys.length E1, .slice D2 nD.chains.length E2, .slice D3 nD.kids.length E3], .slice ka [f 0].length kc, .slice va2 (valK (f 0)).length vc]) (by simp only [List.map_toArray, List.map_cons, List.map_nil, e1, x2.trans ek, x3.trans ev]) ((hC.put w' (hDn.below hBE) fitD hkr (by simp) hvr (valK_small _)).mono ?_)
                rintro e w2 ⟨v, n2, er, rfl, hq, hrd, hb2⟩
                have h5 := CbS.call (stays (PutIs nD [f 0] (valK (f 0))) ([f 0]) (valK (f 0))) hE2 (by simp) hb2 (v := v) (e := .int .i64 (er : Nat)) ⟨n2, er, rfl, hq, hrd⟩
                exact ⟨_, rfl, _, rfl, by simpa [CbK, told, don, upd, bv_length, d4, d10] using h5, trivial⟩
              case o12 =>
                refine StOp.set rfl (by kernel_rfl) (fun A va D w' hF hT hN hE hd hu hg => ?_)
                have x1 : A.eval (.tmp 117) = va 11 := hT 117 11 (by simp) rfl
                have hE2 := hE
                have d11 : D 11 = true := hd ⟨11, .data⟩ (by simp) rfl
                simp only [told, List.map_cons, List.map_nil, hN, d11, Bool.false_eq_true, if_false, if_true] at hE2
                have h5 := CbS.move hE2
                exact BigFrame.wp_move _ rfl ⟨_, rfl, by rw [x1]; simpa [CbK, told, don, upd, bv_length, d11] using h5, trivial⟩
              case o13 =>
                refine StOp.set rfl (by kernel_rfl) (fun A va D w' hF hT hN hE hd hu hg => ?_)
                have x1 : A.eval (.tmp 105) = va 12 := hT 105 12 (by simp) rfl
                have hE2 := hE
                have d12 : D 12 = true := hd ⟨12, .data⟩ (by simp) rfl
                simp only [told, List.map_cons, List.map_nil, hN, d12, Bool.false_eq_true, if_false, if_true] at hE2
                obtain ⟨v, e, em⟩ := CbS.tup hE2
                rw [em] at hE2
                have h5 := CbS.ex0 hE2
                exact wp_ex rfl (x1.trans em) rfl ⟨_, rfl, by simpa [CbK, told, don, upd, d12, em] using h5, trivial⟩
              case o14 =>
                refine StOp.set rfl (by kernel_rfl) (fun A va D w' hF hT hN hE hd hu hg => ?_)
                have x1 : A.eval (.tmp 105) = va 12 := hT 105 12 (by simp) rfl
                have hE2 := hE
                have d12 : D 12 = true := hd ⟨12, .data⟩ (by simp) rfl
                simp only [told, List.map_cons, List.map_nil, hN, d12, Bool.false_eq_true, if_false, if_true] at hE2
                obtain ⟨v, e, em⟩ := CbS.tup hE2
                rw [em] at hE2
                have h5 := CbS.ex1 hE2
                exact wp_ex rfl (x1.trans em) rfl ⟨_, rfl, by simpa [CbK, told, don, upd, d12, em] using h5, trivial⟩
              case o15 =>
                refine StOp.set rfl (by kernel_rfl) (fun A va D w' hF hT hN hE hd hu hg => ?_)
                have hE2 := hE
                simp only [told, List.map_cons, List.map_nil, hN, Bool.false_eq_true, if_false] at hE2
                refine wp_allocN rfl (fun w2 hb2 hz => ⟨_, rfl, ?_, trivial⟩)
                have h5 := CbS.alloc (stays (PutIs nD [f 0] (valK (f 0))) ([f 0]) (valK (f 0))) hE2 hb2 hz
                simpa [CbK, told, don, upd, bv_length] using h5
              case o16 =>
                refine StOp.set rfl (by kernel_rfl) (fun A va D w' hF hT hN hE hd hu hg => ?_)
                have x1 : A.eval (.tmp 18) = va 15 := hT 18 15 (by simp) rfl
                have x2 : A.eval (.tmp 118) = va 13 := hT 118 13 (by simp) rfl
                have hE2 := hE
                have d15 : D 15 = true := hd ⟨15, .data⟩ (by simp) rfl
                have d13 : D 13 = true := hd ⟨13, .data⟩ (by simp) rfl
                simp only [told, List.map_cons, List.map_nil, hN, d15, d13, Bool.false_eq_true, if_false, if_true] at hE2
                obtain ⟨b, eb, hb0⟩ := CbS.box hE2
                obtain ⟨e, hm⟩ := hE2.mx _ rfl
                obtain ⟨v, e2, ec, n2, er, _, _, hrd⟩ := hE2.rr _ (hE2.mv _ hm)
                obtain ⟨A1, B1, A2, B2, A3, B3, ev, _⟩ := id hrd
                injection ec with ec
                injection ec with ec
                injection ec with ec _
                rw [← ec] at ev
                refine wp_storeT rfl (x1.trans eb) (x2.trans ev) rfl rfl rfl hb0 (fun w2 hg2 ht2 => ⟨_, rfl, ?_, trivial⟩)
                rw [eb] at hE2
                have h5 := CbS.sto (u := undef) (stays (PutIs nD [f 0] (valK (f 0))) ([f 0]) (valK (f 0))) hE2 hg2 ⟨_, _, _, ev, ht2⟩
                simpa [CbK, told, don, upd, d15, d13, eb] using h5
              case o17 =>
                refine StOp.free rfl (by kernel_rfl) (fun A va D w' hF hT hN hE hd hu hg => ?_)
                have x1 : A.eval (.tmp 119) = va 14 := hT 119 14 (by simp) rfl
                have hE2 := hE
                have d14 : D 14 = true := hd ⟨14, .data⟩ (by simp) rfl
                simp only [told, List.map_cons, List.map_nil, d14, if_true] at hE2
                have ee := CbS.err hE2 (fun n er hQ => (hP0 _ _ hQ).1)
                exact BigFrame.wp_assign _ rfl ⟨_, rfl, x1.trans ee, Below.refl _ _⟩
              case fin =>
                intro vsC WC hE hG
                obtain ⟨bC, ez, em, ec, hbC, hBx, hR, hbE⟩ := CbS.done (nodeR _) hE (by simp)
                obtain ⟨nC, er, ee, hQ, hCn⟩ := hR
                have her : er = 0 := (hP0 _ _ hQ).1
                rw [her] at ee hQ
                clear her
                obtain ⟨x1, y1, z1, ev, hTC⟩ := hBx
                have g0 : vsC 0 = .agg #[.slice D1 nD.keys.length E1, .slice D2 nD.chains.length E2, .slice D3 nD.kids.length E3] := hG 0 (by decide) rfl
                have g1 : vsC 1 = .slice (some ⟨b, off, none⟩) l.length lc := hG 1 (by decide) rfl
                have g2 : vsC 2 = .pointer (some ⟨b, off + 0 * 1, none⟩) := hG 2 (by decide) rfl
                have g3 : vsC 3 = .int .u8 ((f 0).toNat : Int) := hG 3 (by decide) rfl
                have g5 : vsC 5 = .slice (some ⟨b, off, none⟩) l.length lc := hG 5 (by decide) rfl
                have g6 : vsC 6 = .pointer (some ⟨b, off + 0 * 1, none⟩) := hG 6 (by decide) rfl
                have g7 : vsC 7 = .int .u8 ((f 0).toNat : Int) := hG 7 (by decide) rfl
                have g8 : vsC 8 = .int .i64 ((f 0).toNat : Int) := hG 8 (by decide) rfl
                have g9 : vsC 9 = .int .i64 (1 + ((f 0).toNat : Int)) := hG 9 (by decide) rfl
                have g17 : vsC 17 = .int .i64 (0 : Nat) := hG 17 (by decide) rfl
                simp only [putAll, g0, g1, g2, g3, g5, g6, g7, g8, g9, g17, ec, em, ev, ee, ez]
                rw [ev] at hCn
                obtain ⟨_, okC, prC⟩ := hP0 _ _ hQ
                obtain ⟨G1, H1, G2, H2, G3, H3, e3, _, _, _⟩ := id hCn
                injection e3 with e3
                injection e3 with e3
                injection e3 with e4 e3
                injection e3 with e5 e3
                injection e3 with e6 _
                subst e4 e5 e6
                replace hCn := hCn.weak (S' := fun _ => True) fun _ _ => trivial
                clear hE hG ec em ev ee ez g0 g1 g2 g3 g5 g6 g7 g8 g9 g17 hQ hP0 hDz
                replace q := q.trans (hbE.mono q.size)
                replace hTA := hTA.below hbE hTA.lt
                replace hTD := hTD.below hbE hTD.lt
                replace hA := hA.below hbE
                replace hDn := hDn.below hbE
                clear hbE tD0 tD1 tD2
                have fitC : fitN nC := ok_fit okC (by rw [prC]; exact ⟨by have := fA.len; omega, fA.sm⟩)
                have hpC := Lib.hid (show prN nC = prN na by rw [hpA.out, ← prC]; exact if_pos okC)
                replace prC := Lib.hid prC
                replace prD := Lib.hid prD
                replace hfd := Lib.hid hfd
                replace hMD := Lib.hid hMD
                have hAz := hTA
                have hCz := hTC
                go_simp
                go_upto_region 19 with (fail)
                refine wp_region_gsg (by kernel_rfl) (by kernel_rfl) [sgEq (.agg #[.slice G1 nC.keys.length H1, .slice G2 nC.chains.length H2, .slice G3 nC.kids.length H3]), sgVP (prN na), sgEq (.agg #[.slice XA1 na.keys.length YA1, .slice XA2 na.chains.length YA2, .slice XA3 na.kids.length YA3]), sgVP (prN na), sgEq (.bool true), sgEq (.bool true)]
                  ⟨?o0, ?o1, ?o2, ?o3, ?o4, ?o5, trivial⟩ ?fin
                case o0 =>
                  refine GdOp.plain rfl (fun A vs w' hF hT hb hd => ?_)
                  have e1 : A.eval (.tmp 18) = .pointer (some ⟨bC, 0, none⟩) := hF 18 rfl
                  have hb3 := hCz.below hb hCz.lt
                  exact wp_load3 ndS rfl e1 hb3.cell0 hb3.cell1 hb3.cell2 ⟨_, rfl, rfl, Below.refl _ _⟩
                case o1 =>
                  refine GdOp.plain rfl (fun A vs w' hF hT hb hd => ?_)
                  have e1 : A.eval (.tmp 120) = .agg #[.slice G1 nC.keys.length H1, .slice G2 nC.chains.length H2, .slice G3 nC.kids.length H3] := (hT 120 0 (by simp) rfl).trans (hd ⟨0, .data⟩ (by simp) rfl)
                  refine wp_callFn rfl (enters_of Try.func20 (by kernel_rfl) rfl) (args := #[.agg #[.slice G1 nC.keys.length H1, .slice G2 nC.chains.length H2, .slice G3 nC.kids.length H3]]) (by simp [e1]) ((lawPairs_any hC w' (hCn.below hb) fitC (by rw [hpC.out]; omega)).mono ?_)
                  rintro e w2 ⟨ap, np, cp, rfl, hP, hb2⟩
                  rw [hpC.out] at hP
                  exact ⟨_, rfl, _, rfl, ⟨_, _, _, rfl, hP⟩, hb2⟩
                case o2 =>
                  refine GdOp.plain rfl (fun A vs w' hF hT hb hd => ?_)
                  have e1 : A.eval (.tmp 6) = .pointer (some ⟨ba, 0, none⟩) := hF 6 rfl
                  have hb3 := hAz.below hb hAz.lt
                  exact wp_load3 ndS rfl e1 hb3.cell0 hb3.cell1 hb3.cell2 ⟨_, rfl, rfl, Below.refl _ _⟩
                case o3 =>
                  refine GdOp.plain rfl (fun A vs w' hF hT hb hd => ?_)
                  have e1 : A.eval (.tmp 122) = .agg #[.slice XA1 na.keys.length YA1, .slice XA2 na.chains.length YA2, .slice XA3 na.kids.length YA3] := (hT 122 2 (by simp) rfl).trans (hd ⟨2, .data⟩ (by simp) rfl)
                  refine wp_callFn rfl (enters_of Try.func20 (by kernel_rfl) rfl) (args := #[.agg #[.slice XA1 na.keys.length YA1, .slice XA2 na.chains.length YA2, .slice XA3 na.kids.length YA3]]) (by simp [e1]) ((lawPairs_any hC w' (hA.below hb) fitA (by omega)).mono ?_)
                  rintro e w2 ⟨ap, np, cp, rfl, hP, hb2⟩
                  exact ⟨_, rfl, _, rfl, ⟨_, _, _, rfl, hP⟩, hb2⟩
                case o4 =>
                  refine GdOp.plain rfl (fun A vs w' hF hT hb hd => ?_)
                  obtain ⟨p1, p2, p3, ep, hp⟩ := hd ⟨1, .data⟩ (by simp) rfl
                  obtain ⟨r1, r2, r3, er, hr⟩ := hd ⟨3, .data⟩ (by simp) rfl
                  have x1 : A.eval (.tmp 121) = .slice p1 p2 p3 := (hT 121 1 (by simp) rfl).trans ep
                  have x2 : A.eval (.tmp 123) = .slice r1 r2 r3 := (hT 123 3 (by simp) rfl).trans er
                  refine wp_callFn rfl (enters_of Try.func19 (by kernel_rfl) rfl) (args := #[.slice p1 p2 p3, .slice r1 r2 r3]) (by simp only [List.map_toArray, List.map_cons, List.map_nil, x1, x2]) ((sameP_any w' hp hr).mono ?_)
                  rintro e w2 ⟨rfl, hb2⟩
                  exact ⟨_, rfl, _, rfl, congrArg Value.bool (decide_eq_true rfl), hb2⟩
                case o5 =>
                  refine GdOp.plain rfl (fun A vs w' hF hT hb hd => ?_)
                  have e1 : A.eval (.tmp 124) = .bool true := (hT 124 4 (by simp) rfl).trans (hd ⟨4, .data⟩ (by simp) rfl)
                  exact BigFrame.wp_assign _ rfl ⟨_, rfl, e1, Below.refl _ _⟩
                case fin =>
                  intro vs9 W9 hb hG
                  have y0 : vs9 0 = .agg #[.slice G1 nC.keys.length H1, .slice G2 nC.chains.length H2, .slice G3 nC.kids.length H3] := hG 0 (by decide)
                  have y2 : vs9 2 = .agg #[.slice XA1 na.keys.length YA1, .slice XA2 na.chains.length YA2, .slice XA3 na.kids.length YA3] := hG 2 (by decide)
                  have y4 : vs9 4 = .bool true := hG 4 (by decide)
                  have y5 : vs9 5 = .bool true := hG 5 (by decide)
                  simp only [putAll, y0, y2, y4, y5]
                  clear hG y0 y2 y4 y5
                  replace q := q.trans (hb.mono q.size)
                  replace hA := hA.below hb
                  replace hDn := hDn.below hb
                  replace hTA := hTA.below hb hTA.lt
                  replace hTD := hTD.below hb hTD.lt
                  clear hb
                  go_simp
                  clear hAz hCz
                  have hAz := hTA
                  have hDz := hTD
                  have hmdI : ((prN nD).length : Int) = ((prN na).length : Int) - 1 := by have := hMD.out; omega
                  go_upto_region 20 with (fail)
                  refine wp_region_gsa (by kernel_rfl) (by kernel_rfl) [sgEq (.bool true), sgEq (.bool true), sgEq (.int .i64 (0 : Nat)), sgEq (.bool true), sgEq (.bool true), sgEq (.bool true), sgEq (.int .i64 (0 : Nat)), sgEq (.bool true), sgEq (.bool true), sgEq (.bool true), sgEq (.bool true), sgEq (.bool true), sgEq (.bool true), sgEq (.agg #[.slice D1 nD.keys.length E1, .slice D2 nD.chains.length E2, .slice D3 nD.kids.length E3]), sgEq (.int .i64 ((prN nD).length : Nat)), sgEq (.agg #[.slice XA1 na.keys.length YA1, .slice XA2 na.chains.length YA2, .slice XA3 na.kids.length YA3]), sgEq (.int .i64 ((prN na).length : Nat)), sgEq (.int .i64 (((prN na).length : Int) - 1)), sgEq (.bool true), sgEq (.bool true), sgEq (.bool true)]
                    ⟨?o0, ?o1, ?o2, ?o3, ?o4, ?o5, ?o6, ?o7, ?o8, ?o9, ?o10, ?o11, ?o12, ?o13, ?o14, ?o15, ?o16, ?o17, ?o18, ?o19, ?o20, trivial⟩ ?fin
                  case o0 =>
                    refine GdOp.plain rfl (fun A vs w' hF hT hb hd => ?_)
                    have e1 : A.eval (.tmp 5) = .bool true := hF 5 rfl
                    exact BigFrame.wp_move _ rfl ⟨_, rfl, e1, Below.refl _ _⟩
                  case o1 =>
                    refine GdOp.plain rfl (fun A vs w' hF hT hb hd => ?_)
                    have e1 : A.eval (.tmp 125) = .bool true := (hT 125 0 (by simp) rfl).trans (hd ⟨0, .data⟩ (by simp) rfl)
                    exact BigFrame.wp_move _ rfl ⟨_, rfl, e1, Below.refl _ _⟩
                  case o2 =>
                    refine GdOp.taken rfl ⟨_, _, rfl, rfl, by simp⟩ (by kernel_rfl) (fun w v h => h) (fun A vs w' hF hT hb hd => ?_)
                    have e1 : A.eval (.tmp 17) = .int .i64 (0 : Nat) := hF 17 rfl
                    exact BigFrame.wp_move _ rfl ⟨_, rfl, e1, Below.refl _ _⟩
                  case o3 =>
                    refine GdOp.taken rfl ⟨_, _, rfl, rfl, by simp⟩ (by kernel_rfl) (fun w v h => h) (fun A vs w' hF hT hb hd => ?_)
                    have e1 : A.eval (.tmp 127) = .int .i64 (0 : Nat) := (hT 127 2 (by simp) rfl).trans (hd ⟨2, .data⟩ (by simp) rfl)
                    exact wp_eqlI rfl e1 rfl ⟨_, rfl, congrArg Value.bool (by simp), Below.refl _ _⟩
                  case o4 =>
                    refine GdOp.plain rfl (fun A vs w' hF hT hb hd => ?_)
                    have e1 : A.eval (.tmp 126) = .bool true := (hT 126 1 (by simp) rfl).trans (hd ⟨1, .data⟩ (by simp) rfl)
                    have e2 : A.eval (.tmp 128) = .bool true := (hT 128 3 (by simp) rfl).trans (hd ⟨3, .data⟩ (by simp) rfl)
                    exact wp_pk rfl e1 (fun _ => e2) (by simp) ⟨_, rfl, rfl, Below.refl _ _⟩
                  case o5 =>
                    refine GdOp.plain rfl (fun A vs w' hF hT hb hd => ?_)
                    have e1 : A.eval (.tmp 129) = .bool true := (hT 129 4 (by simp) rfl).trans (hd ⟨4, .data⟩ (by simp) rfl)
                    exact BigFrame.wp_move _ rfl ⟨_, rfl, e1, Below.refl _ _⟩
                  case o6 =>
                    refine GdOp.taken rfl ⟨_, _, rfl, rfl, by simp⟩ (by kernel_rfl) (fun w v h => h) (fun A vs w' hF hT hb hd => ?_)
                    have e1 : A.eval (.tmp 19) = .int .i64 (0 : Nat) := hF 19 rfl
                    exact BigFrame.wp_move _ rfl ⟨_, rfl, e1, Below.refl _ _⟩
                  case o7 =>
                    refine GdOp.taken rfl ⟨_, _, rfl, rfl, by simp⟩ (by kernel_rfl) (fun w v h => h) (fun A vs w' hF hT hb hd => ?_)
                    have e1 : A.eval (.tmp 131) = .int .i64 (0 : Nat) := (hT 131 6 (by simp) rfl).trans (hd ⟨6, .data⟩ (by simp) rfl)
                    exact wp_eqlI rfl e1 rfl ⟨_, rfl, congrArg Value.bool (by simp), Below.refl _ _⟩
                  case o8 =>
                    refine GdOp.plain rfl (fun A vs w' hF hT hb hd => ?_)
                    have e1 : A.eval (.tmp 130) = .bool true := (hT 130 5 (by simp) rfl).trans (hd ⟨5, .data⟩ (by simp) rfl)
                    have e2 : A.eval (.tmp 132) = .bool true := (hT 132 7 (by simp) rfl).trans (hd ⟨7, .data⟩ (by simp) rfl)
                    exact wp_pk rfl e1 (fun _ => e2) (by simp) ⟨_, rfl, rfl, Below.refl _ _⟩
                  case o9 =>
                    refine GdOp.plain rfl (fun A vs w' hF hT hb hd => ?_)
                    have e1 : A.eval (.tmp 133) = .bool true := (hT 133 8 (by simp) rfl).trans (hd ⟨8, .data⟩ (by simp) rfl)
                    exact BigFrame.wp_move _ rfl ⟨_, rfl, e1, Below.refl _ _⟩
                  case o10 =>
                    refine GdOp.taken rfl ⟨_, _, rfl, rfl, by simp⟩ (by kernel_rfl) (fun w v h => h) (fun A vs w' hF hT hb hd => ?_)
                    have e1 : A.eval (.tmp 20) = .bool true := hF 20 rfl
                    exact BigFrame.wp_move _ rfl ⟨_, rfl, e1, Below.refl _ _⟩
                  case o11 =>
                    refine GdOp.plain rfl (fun A vs w' hF hT hb hd => ?_)
                    have e1 : A.eval (.tmp 134) = .bool true := (hT 134 9 (by simp) rfl).trans (hd ⟨9, .data⟩ (by simp) rfl)
                    have e2 : A.eval (.tmp 135) = .bool true := (hT 135 10 (by simp) rfl).trans (hd ⟨10, .data⟩ (by simp) rfl)
                    exact wp_pk rfl e1 (fun _ => e2) (by simp) ⟨_, rfl, rfl, Below.refl _ _⟩
                  case o12 =>
                    refine GdOp.plain rfl (fun A vs w' hF hT hb hd => ?_)
                    have e1 : A.eval (.tmp 136) = .bool true := (hT 136 11 (by simp) rfl).trans (hd ⟨11, .data⟩ (by simp) rfl)
                    exact BigFrame.wp_move _ rfl ⟨_, rfl, e1, Below.refl _ _⟩
                  case o13 =>
                    refine GdOp.taken rfl ⟨_, _, rfl, rfl, by simp⟩ (by kernel_rfl) (fun w v h => h) (fun A vs w' hF hT hb hd => ?_)
                    have e1 : A.eval (.tmp 16) = .pointer (some ⟨bD, 0, none⟩) := hF 16 rfl
                    have hb3 := hDz.below hb hDz.lt
                    exact wp_load3 ndS rfl e1 hb3.cell0 hb3.cell1 hb3.cell2 ⟨_, rfl, rfl, Below.refl _ _⟩
                  case o14 =>
                    refine GdOp.taken rfl ⟨_, _, rfl, rfl, by simp⟩ (by kernel_rfl) (fun w v h => h) (fun A vs w' hF hT hb hd => ?_)
                    have e1 : A.eval (.tmp 138) = .agg #[.slice D1 nD.keys.length E1, .slice D2 nD.chains.length E2, .slice D3 nD.kids.length E3] := (hT 138 13 (by simp) rfl).trans (hd ⟨13, .data⟩ (by simp) rfl)
                    refine wp_callFn rfl (enters_of Try.func24 (by kernel_rfl) rfl) (args := #[.agg #[.slice D1 nD.keys.length E1, .slice D2 nD.chains.length E2, .slice D3 nD.kids.length E3]]) (by simp [e1]) ((hC.many w' (hDn.below hb) fitD).mono ?_)
                    rintro e w2 ⟨rfl, hb2⟩
                    exact ⟨_, rfl, _, rfl, rfl, hb2⟩
                  case o15 =>
                    refine GdOp.taken rfl ⟨_, _, rfl, rfl, by simp⟩ (by kernel_rfl) (fun w v h => h) (fun A vs w' hF hT hb hd => ?_)
                    have e1 : A.eval (.tmp 6) = .pointer (some ⟨ba, 0, none⟩) := hF 6 rfl
                    have hb3 := hAz.below hb hAz.lt
                    exact wp_load3 ndS rfl e1 hb3.cell0 hb3.cell1 hb3.cell2 ⟨_, rfl, rfl, Below.refl _ _⟩
                  case o16 =>
                    refine GdOp.taken rfl ⟨_, _, rfl, rfl, by simp⟩ (by kernel_rfl) (fun w v h => h) (fun A vs w' hF hT hb hd => ?_)
                    have e1 : A.eval (.tmp 140) = .agg #[.slice XA1 na.keys.length YA1, .slice XA2 na.chains.length YA2, .slice XA3 na.kids.length YA3] := (hT 140 15 (by simp) rfl).trans (hd ⟨15, .data⟩ (by simp) rfl)
                    refine wp_callFn rfl (enters_of Try.func24 (by kernel_rfl) rfl) (args := #[.agg #[.slice XA1 na.keys.length YA1, .slice XA2 na.chains.length YA2, .slice XA3 na.kids.length YA3]]) (by simp [e1]) ((hC.many w' (hA.below hb) fitA).mono ?_)
                    rintro e w2 ⟨rfl, hb2⟩
                    exact ⟨_, rfl, _, rfl, rfl, hb2⟩
                  case o17 =>
                    refine GdOp.taken rfl ⟨_, _, rfl, rfl, by simp⟩ (by kernel_rfl) (fun w v h => h) (fun A vs w' hF hT hb hd => ?_)
                    have e1 : A.eval (.tmp 141) = .int .i64 ((prN na).length : Nat) := (hT 141 16 (by simp) rfl).trans (hd ⟨16, .data⟩ (by simp) rfl)
                    exact wp_subJ rfl e1 rfl (by omega) (by omega) ⟨_, rfl, rfl, Below.refl _ _⟩
                  case o18 =>
                    refine GdOp.taken rfl ⟨_, _, rfl, rfl, by simp⟩ (by kernel_rfl) (fun w v h => h) (fun A vs w' hF hT hb hd => ?_)
                    have e1 : A.eval (.tmp 139) = .int .i64 ((prN nD).length : Nat) := (hT 139 14 (by simp) rfl).trans (hd ⟨14, .data⟩ (by simp) rfl)
                    have e2 : A.eval (.tmp 142) = .int .i64 (((prN na).length : Int) - 1) := (hT 142 17 (by simp) rfl).trans (hd ⟨17, .data⟩ (by simp) rfl)
                    exact wp_eqlI rfl e1 e2 ⟨_, rfl, congrArg Value.bool (by rw [hmdI]; simp), Below.refl _ _⟩
                  case o19 =>
                    refine GdOp.plain rfl (fun A vs w' hF hT hb hd => ?_)
                    have e1 : A.eval (.tmp 137) = .bool true := (hT 137 12 (by simp) rfl).trans (hd ⟨12, .data⟩ (by simp) rfl)
                    have e2 : A.eval (.tmp 143) = .bool true := (hT 143 18 (by simp) rfl).trans (hd ⟨18, .data⟩ (by simp) rfl)
                    exact wp_pk rfl e1 (fun _ => e2) (by simp) ⟨_, rfl, rfl, Below.refl _ _⟩
                  case o20 =>
                    refine GdOp.plain rfl (fun A vs w' hF hT hb hd => ?_)
                    have e1 : A.eval (.tmp 144) = .bool true := (hT 144 19 (by simp) rfl).trans (hd ⟨19, .data⟩ (by simp) rfl)
                    exact BigFrame.wp_assign _ rfl ⟨_, rfl, e1, Below.refl _ _⟩
                  case fin =>
                    intro A vs w' hA5 hb hG
                    have e4 : A.eval (.tmp 4) = .bool true := (hA5.2.2.2 4 20 (by simp) rfl).trans (hG 20 (by decide))
                    have hd : A.defers = [] := hA5.1
                    clear hG hA5
                    go_wp2
                    refine bodyPost_ret (v := .bool true) ?_ hd ⟨rfl, q.trans (hb.mono q.size)⟩
                    rw [← e4]
                    exact results_tmp rfl _ _ _
end Go.Proofs.Ytdegjkfjaklkjaa
