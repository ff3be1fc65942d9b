/-
  THE WALK OF SumSwaps: whatever the text and the place: true, and nothing that lay has turned.
-/
import Derived.WalkKit
import Derived.WalkSpells
import Derived.WalkLawsBesides
import Derived.Lib.Hide
import Derived.Shelf.Abstract
import Derived.Deep.Cut
import Derived.Test.YtlmoidnlfabgbaaProg
import Derived.Test.YtlmoidnlfabgbaaByte
import Derived.Test.YtlmoidnlfabgbaaSumM
import Derived.Test.YtlmoidnlfabgbaaSumA
import Derived.Test.YtlmoidnlfabgbaaSumB
import Derived.Test.YtlmoidnlfabgbaaSumC
import Derived.Test.YtlmoidnlfabgbaaSumByteW
import Derived.Test.YtlmoidnlfabgbaaMake
import Derived.Test.YtlmoidnlfabgbaaGuard
import Derived.Test.YtlmoidnlfabgbaaOps
namespace Go.Proofs.Ytlmoidnlfabgbaa
open Go.RowKit Go.Shelf
theorem own_set {E : TypeId} {base : Nat} {w : World} {g n cap : Nat} {xs : List UInt8} (h : Own E base w (.slice (some ⟨g, 0, none⟩) n cap) xs) (k : Nat) (b : UInt8) (hk : k < xs.length) : Own E base (w.setCell ⟨g, k, none⟩ (.int .u8 (b.toNat : Int))) (.slice (some ⟨g, 0, none⟩) n cap) (xs.set k b) := by
  obtain ⟨g', cp, hv, _, _, _, _, _, _, hst⟩ := h.some (by omega)
  cases hv
  exact hst k b hk
theorem swap_split (xs : List UInt8) (k : Nat) (hk : k + 1 < xs.length) : xs = xs.take k ++ xs[k] :: xs[k + 1] :: xs.drop (k + 2) ∧ (xs.set k xs[k + 1]).set (k + 1) xs[k] = xs.take k ++ xs[k + 1] :: xs[k] :: xs.drop (k + 2) := by
  have e : xs = xs.take k ++ xs[k] :: xs[k + 1] :: xs.drop (k + 2) := by
    rw [← List.drop_eq_getElem_cons hk, ← List.drop_eq_getElem_cons (by omega), List.take_append_drop]
  refine ⟨e, ?_⟩
  have ht : (xs.take k).length = k := by simp; omega
  generalize xs[k] = p at *
  generalize xs[k + 1] = q at *
  generalize xs.take k = pre at *
  generalize xs.drop (k + 2) = post at *
  subst e
  subst ht
  simp
theorem sum_swaps (xs : List UInt8) (k : Nat) (hk : k + 1 < xs.length) : sumT ((xs.set k xs[k + 1]).set (k + 1) xs[k]) = sumT xs ↔ xs[k] = xs[k + 1] := by
  obtain ⟨h1, h2⟩ := swap_split xs k hk
  have h := sum_swap (xs.take k) (xs.drop (k + 2)) xs[k] xs[k + 1]
  rw [← h1, ← h2] at h
  exact h
set_option maxRecDepth 100000 in
set_option maxHeartbeats 1000000 in
theorem SumSwaps_w (w : World) {a0 : Option Addr} {n0 c0 : Nat} {xs : List UInt8} (hx : Rd w.heap.size w (.slice a0 n0 c0) xs) {at' : Int} (_ : 0 ≤ at') (_ : at' < 65536) :
    Calls Try.prog 8 #[.slice a0 n0 c0, .int .u16 at'] w fun e w' => e = .returned (.bool true) ∧ Below w.heap.size w w' := by
  obtain rfl : n0 = xs.length := hx.len.1
  by_cases h : xs.length < 2
  · have d : decide ((xs.length : Int) < 2) = true := by simp; omega
    go_enter Try.func8, Try.ntmps8
    go_wp2_with fail
    refine (awake_any _).mono ?_
    rintro e w1 ⟨rfl, hb⟩
    go_wp2
    go_ret
    exact ⟨rfl, hb⟩
  have d1 : decide ((xs.length : Int) < 2) = false := by simp; omega
  have l1 : 2 ≤ xs.length := by omega
  clear h
  by_cases h : 300 < xs.length
  · have d : decide ((300 : Int) < xs.length) = true := by simp; omega
    go_enter Try.func8, Try.ntmps8
    go_wp2_with fail
    refine (awake_any _).mono ?_
    rintro e w1 ⟨rfl, hb⟩
    go_wp2
    go_ret
    exact ⟨rfl, hb⟩
  have d2 : decide ((300 : Int) < xs.length) = false := by simp; omega
  have l2 : xs.length ≤ 300 := by omega
  clear h
  obtain ⟨k, hkk⟩ : ∃ k : Nat, at' % ((xs.length : Int) - 1) = k := Int.eq_ofNat_of_zero_le (Int.emod_nonneg _ (by omega))
  have hk : k + 1 < xs.length := by have := Int.emod_lt_of_pos at' (show (0 : Int) < (xs.length : Int) - 1 by omega); omega
  have hk0 : k < xs.length := by omega
  obtain ⟨zs, hz⟩ : ∃ zs, (xs.set k xs[k + 1]).set (k + 1) xs[k] = zs := ⟨_, rfl⟩
  have D : decide ((sumT zs : Int) = (sumT xs : Nat)) = decide ((xs[k].toNat : Int) = xs[k + 1].toNat) := by
    rw [decide_eq_decide, ← hz, Int.ofNat_inj, sum_swaps xs k hk, Int.ofNat_inj]
    exact UInt8.toNat_inj.symm
  have HD := Lib.hid D
  have Hz := Lib.hid hz
  clear D hz
  obtain ⟨b, off, rfl, hbl0, hcells0⟩ := hx.cellAt k hk0
  go_enter Try.func8, Try.ntmps8
  go_wp2_with fail
  refine (awake_any _).mono ?_
  rintro e w1 ⟨rfl, q⟩
  have hx1 := hx.below q
  have q1 := q.size
  go_wp2_with (first
    | (refine wpList_lit byP rfl [] rfl rfl rfl ?_ (by simp); intro g1 k1 u1 hF; have hx2 := hx1.below (hF.1.mono q1))
    | (at_builtin; refine wpList_append byP rfl rfl rfl hF.2 rfl hx2 hF.1.size ?_ ?hl1; intro ad1 m1 cq u2 hO1 hg1 hb1; rw [List.nil_append] at hO1; obtain ⟨g, cp, hv, hgb, hgl, hcp, hcm, hfz, hcl, hst⟩ := hO1.some (by omega); cases hv; have hcl1 := hcl (k + 1) hk; have hfz1 := hfz (k + 1); have hcl0 := hcl k hk0; have hfz0 := hfz k; have hcA := (hb1.cell (p := ⟨b, off + (k + 1), none⟩) (by show b < w1.heap.size; omega)).trans ((hF.1.cell (p := ⟨b, off + (k + 1), none⟩) (by show b < w1.heap.size; omega)).trans ((q.cell (p := ⟨b, off + (k + 1), none⟩) hbl0).trans (hcells0 (k + 1) hk))); have hcB := (hb1.cell (p := ⟨b, off + k, none⟩) (by show b < w1.heap.size; omega)).trans ((hF.1.cell (p := ⟨b, off + k, none⟩) (by show b < w1.heap.size; omega)).trans ((q.cell (p := ⟨b, off + k, none⟩) hbl0).trans (hcells0 k hk0)))))
  case hl1 => simp; omega
  have hst2 := own_set (own_set hO1 k xs[k + 1] hk0) (k + 1) xs[k] (by simpa using hk)
  have hc0 := hst2.rd
  have q2 := (((q.trans (hF.1.mono q1)).trans (hb1.mono q1)).setCell (p := ⟨g, k, none⟩) (Nat.le_trans q1 hgb) (.int .u8 (xs[k + 1].toNat : Int))).setCell (p := ⟨g, k + 1, none⟩) (Nat.le_trans q1 hgb) (.int .u8 (xs[k].toNat : Int))
  have e2 : (xs.set k xs[k + 1]).set (k + 1) xs[k] = zs := Hz.out
  rw [e2] at hc0
  generalize (u2.setCell ⟨g, k, none⟩ (.int .u8 (xs[k + 1].toNat : Int))).setCell ⟨g, k + 1, none⟩ (.int .u8 (xs[k].toNat : Int)) = W at hc0 q2 ⊢
  clear hst hst2 hcl1 hfz1 hcl0 hfz0 hcl hfz hcm hcp hgl hgb hO1 hg1 hb1 hF hx2 hx1 q1 q hkk e2 hcA hcB hcells0 hbl0
  have hc := hc0
  have hr := (hx.below q2).mono q2.size
  obtain ⟨b', off', heq, hbl, hcells⟩ := hr.cellAt k hk0
  cases heq
  have es : ∀ args w, (callFunc 12 args).run Try.prog w = .ok (.enter 12 args) w := enters_of Try.func12 (by kernel_rfl) rfl
  refine wp_region_gsa (by kernel_rfl) (by kernel_rfl) [sgEq (.bool true), sgEq (.bool true), sgEq (.slice (some ⟨g, 0, none⟩) xs.length cq), sgEq (.int .u32 (sumT zs)), sgEq (.slice (some ⟨b, off, none⟩) xs.length c0), sgEq (.int .u32 (sumT xs)), sgEq (.bool (decide ((sumT zs : Int) = (sumT xs : Nat)))), sgEq (.slice (some ⟨b, off, none⟩) xs.length c0), sgEq (.int .i64 (k : Nat)), sgEq (.pointer (some ⟨b, off + k, none⟩)), sgEq (.int .u8 (xs[k]'hk0).toNat), sgEq (.slice (some ⟨b, off, none⟩) xs.length c0), sgEq (.int .i64 (k : Nat)), sgEq (.int .i64 ((k : Int) + 1)), sgEq (.pointer (some ⟨b, off + (k + 1), none⟩)), sgEq (.int .u8 (xs[k + 1]'hk).toNat), sgEq (.bool (decide (((xs[k]'hk0).toNat : Int) = (xs[k + 1]'hk).toNat))), sgEq (.bool true), sgEq (.bool true), sgEq (.bool true)]
    ⟨?o0, ?o1, ?o2, ?o3, ?o4, ?o5, ?o6, ?o7, ?o8, ?o9, ?o10, ?o11, ?o12, ?o13, ?o14, ?o15, ?o16, ?o17, ?o18, ?o19, trivial⟩ ?fin
  case o0 =>
    refine GdOp.plain rfl (fun A vs w' hF hT hb hd => ?_)
    have e1 : A.eval (.tmp 5) = .bool true := hF 5 rfl
    exact BigFrame.wp_move _ rfl ⟨_, rfl, e1, Below.refl _ _⟩
  case o1 =>
    refine GdOp.plain rfl (fun A vs w' hF hT hb hd => ?_)
    have e1 : A.eval (.tmp 43) = .bool true := (hT 43 0 (by simp) rfl).trans (hd ⟨0, .data⟩ (by simp) rfl)
    exact BigFrame.wp_move _ rfl ⟨_, rfl, e1, Below.refl _ _⟩
  case o2 =>
    refine GdOp.taken rfl ⟨_, _, rfl, rfl, by simp⟩ (by kernel_rfl) (fun w v h => h) (fun A vs w' hF hT hb hd => ?_)
    have e1 : A.eval (.tmp 7) = .slice (some ⟨g, 0, none⟩) xs.length cq := hF 7 rfl
    exact BigFrame.wp_move _ rfl ⟨_, rfl, e1, Below.refl _ _⟩
  case o3 =>
    refine GdOp.taken rfl ⟨_, _, rfl, rfl, by simp⟩ (by kernel_rfl) (fun w v h => h) (fun A vs w' hF hT hb hd => ?_)
    have e1 : A.eval (.tmp 45) = .slice (some ⟨g, 0, none⟩) xs.length cq := (hT 45 2 (by simp) rfl).trans (hd ⟨2, .data⟩ (by simp) rfl)
    refine wp_callFn rfl es (args := #[.slice (some ⟨g, 0, none⟩) xs.length cq]) (by simp [e1]) ((sum_any _ _ hb.size (hc.below hb)).mono ?_)
    rintro e w2 ⟨rfl, hb2⟩
    exact ⟨_, rfl, _, rfl, rfl, hb2⟩
  case o4 =>
    refine GdOp.taken rfl ⟨_, _, rfl, rfl, by simp⟩ (by kernel_rfl) (fun w v h => h) (fun A vs w' hF hT hb hd => ?_)
    have e1 : A.eval (.tmp 0) = .slice (some ⟨b, off, none⟩) xs.length c0 := hF 0 rfl
    exact BigFrame.wp_move _ rfl ⟨_, rfl, e1, Below.refl _ _⟩
  case o5 =>
    refine GdOp.taken rfl ⟨_, _, rfl, rfl, by simp⟩ (by kernel_rfl) (fun w v h => h) (fun A vs w' hF hT hb hd => ?_)
    have e1 : A.eval (.tmp 47) = .slice (some ⟨b, off, none⟩) xs.length c0 := (hT 47 4 (by simp) rfl).trans (hd ⟨4, .data⟩ (by simp) rfl)
    refine wp_callFn rfl es (args := #[.slice (some ⟨b, off, none⟩) xs.length c0]) (by simp [e1]) ((sum_any _ _ hb.size (hr.below hb)).mono ?_)
    rintro e w2 ⟨rfl, hb2⟩
    exact ⟨_, rfl, _, rfl, rfl, hb2⟩
  case o6 =>
    refine GdOp.taken rfl ⟨_, _, rfl, rfl, by simp⟩ (by kernel_rfl) (fun w v h => h) (fun A vs w' hF hT hb hd => ?_)
    have e1 : A.eval (.tmp 46) = .int .u32 (sumT zs) := (hT 46 3 (by simp) rfl).trans (hd ⟨3, .data⟩ (by simp) rfl)
    have e2 : A.eval (.tmp 48) = .int .u32 (sumT xs) := (hT 48 5 (by simp) rfl).trans (hd ⟨5, .data⟩ (by simp) rfl)
    exact wp_eqlI rfl e1 e2 ⟨_, rfl, rfl, Below.refl _ _⟩
  case o7 =>
    refine GdOp.taken rfl ⟨_, _, rfl, rfl, by simp⟩ (by kernel_rfl) (fun w v h => h) (fun A vs w' hF hT hb hd => ?_)
    have e1 : A.eval (.tmp 0) = .slice (some ⟨b, off, none⟩) xs.length c0 := hF 0 rfl
    exact BigFrame.wp_move _ rfl ⟨_, rfl, e1, Below.refl _ _⟩
  case o8 =>
    refine GdOp.taken rfl ⟨_, _, rfl, rfl, by simp⟩ (by kernel_rfl) (fun w v h => h) (fun A vs w' hF hT hb hd => ?_)
    have e1 : A.eval (.tmp 6) = .int .i64 (k : Nat) := hF 6 rfl
    exact BigFrame.wp_move _ rfl ⟨_, rfl, e1, Below.refl _ _⟩
  case o9 =>
    refine GdOp.taken rfl ⟨_, _, rfl, rfl, by simp⟩ (by kernel_rfl) (fun w v h => h) (fun A vs w' hF hT hb hd => ?_)
    have e1 : A.eval (.tmp 50) = .slice (some ⟨b, off, none⟩) xs.length c0 := (hT 50 7 (by simp) rfl).trans (hd ⟨7, .data⟩ (by simp) rfl)
    have e2 : A.eval (.tmp 51) = .int .i64 (k : Nat) := (hT 51 8 (by simp) rfl).trans (hd ⟨8, .data⟩ (by simp) rfl)
    exact wp_ix (e := 5) rfl (by kernel_rfl) (by kernel_rfl) e1 e2 rfl (by omega) ⟨_, rfl, rfl, Below.refl _ _⟩
  case o10 =>
    refine GdOp.taken rfl ⟨_, _, rfl, rfl, by simp⟩ (by kernel_rfl) (fun w v h => h) (fun A vs w' hF hT hb hd => ?_)
    have e1 : A.eval (.tmp 52) = .pointer (some ⟨b, off + k, none⟩) := (hT 52 9 (by simp) rfl).trans (hd ⟨9, .data⟩ (by simp) rfl)
    exact wp_ld_int (k := .u8) rfl e1 (by kernel_rfl) ((hb.cell (p := ⟨b, off + k, none⟩) hbl).trans (hcells (k) (by omega))) ⟨_, rfl, rfl, Below.refl _ _⟩
  case o11 =>
    refine GdOp.taken rfl ⟨_, _, rfl, rfl, by simp⟩ (by kernel_rfl) (fun w v h => h) (fun A vs w' hF hT hb hd => ?_)
    have e1 : A.eval (.tmp 0) = .slice (some ⟨b, off, none⟩) xs.length c0 := hF 0 rfl
    exact BigFrame.wp_move _ rfl ⟨_, rfl, e1, Below.refl _ _⟩
  case o12 =>
    refine GdOp.taken rfl ⟨_, _, rfl, rfl, by simp⟩ (by kernel_rfl) (fun w v h => h) (fun A vs w' hF hT hb hd => ?_)
    have e1 : A.eval (.tmp 6) = .int .i64 (k : Nat) := hF 6 rfl
    exact BigFrame.wp_move _ rfl ⟨_, rfl, e1, Below.refl _ _⟩
  case o13 =>
    refine GdOp.taken rfl ⟨_, _, rfl, rfl, by simp⟩ (by kernel_rfl) (fun w v h => h) (fun A vs w' hF hT hb hd => ?_)
    have e1 : A.eval (.tmp 55) = .int .i64 (k : Nat) := (hT 55 12 (by simp) rfl).trans (hd ⟨12, .data⟩ (by simp) rfl)
    exact wp_addI rfl e1 rfl (by omega) (by omega) ⟨_, rfl, rfl, Below.refl _ _⟩
  case o14 =>
    refine GdOp.taken rfl ⟨_, _, rfl, rfl, by simp⟩ (by kernel_rfl) (fun w v h => h) (fun A vs w' hF hT hb hd => ?_)
    have e1 : A.eval (.tmp 54) = .slice (some ⟨b, off, none⟩) xs.length c0 := (hT 54 11 (by simp) rfl).trans (hd ⟨11, .data⟩ (by simp) rfl)
    have e2 : A.eval (.tmp 56) = .int .i64 ((k : Int) + 1) := (hT 56 13 (by simp) rfl).trans (hd ⟨13, .data⟩ (by simp) rfl)
    exact wp_ix (e := 5) rfl (by kernel_rfl) (by kernel_rfl) e1 e2 (by simp) (by omega) ⟨_, rfl, rfl, Below.refl _ _⟩
  case o15 =>
    refine GdOp.taken rfl ⟨_, _, rfl, rfl, by simp⟩ (by kernel_rfl) (fun w v h => h) (fun A vs w' hF hT hb hd => ?_)
    have e1 : A.eval (.tmp 57) = .pointer (some ⟨b, off + (k + 1), none⟩) := (hT 57 14 (by simp) rfl).trans (hd ⟨14, .data⟩ (by simp) rfl)
    exact wp_ld_int (k := .u8) rfl e1 (by kernel_rfl) ((hb.cell (p := ⟨b, off + (k + 1), none⟩) hbl).trans (hcells ((k + 1)) (by omega))) ⟨_, rfl, rfl, Below.refl _ _⟩
  case o16 =>
    refine GdOp.taken rfl ⟨_, _, rfl, rfl, by simp⟩ (by kernel_rfl) (fun w v h => h) (fun A vs w' hF hT hb hd => ?_)
    have e1 : A.eval (.tmp 53) = .int .u8 (xs[k]'hk0).toNat := (hT 53 10 (by simp) rfl).trans (hd ⟨10, .data⟩ (by simp) rfl)
    have e2 : A.eval (.tmp 58) = .int .u8 (xs[k + 1]'hk).toNat := (hT 58 15 (by simp) rfl).trans (hd ⟨15, .data⟩ (by simp) rfl)
    exact wp_eqlI rfl e1 e2 ⟨_, rfl, rfl, Below.refl _ _⟩
  case o17 =>
    refine GdOp.taken rfl ⟨_, _, rfl, rfl, by simp⟩ (by kernel_rfl) (fun w v h => h) (fun A vs w' hF hT hb hd => ?_)
    have e1 : A.eval (.tmp 49) = .bool (decide ((sumT zs : Int) = (sumT xs : Nat))) := (hT 49 6 (by simp) rfl).trans (hd ⟨6, .data⟩ (by simp) rfl)
    have e2 : A.eval (.tmp 59) = .bool (decide (((xs[k]'hk0).toNat : Int) = (xs[k + 1]'hk).toNat)) := (hT 59 16 (by simp) rfl).trans (hd ⟨16, .data⟩ (by simp) rfl)
    exact wp_eqlB (by kernel_rfl) rfl e1 e2 ⟨_, rfl, by rw [HD.out, beq_self_eq_true]; rfl, Below.refl _ _⟩
  case o18 =>
    refine GdOp.plain rfl (fun A vs w' hF hT hb hd => ?_)
    have e1 : A.eval (.tmp 44) = .bool true := (hT 44 1 (by simp) rfl).trans (hd ⟨1, .data⟩ (by simp) rfl)
    have e2 : A.eval (.tmp 60) = .bool true := (hT 60 17 (by simp) rfl).trans (hd ⟨17, .data⟩ (by simp) rfl)
    exact wp_pk rfl e1 (fun _ => e2) (by simp) ⟨_, rfl, rfl, Below.refl _ _⟩
  case o19 =>
    refine GdOp.plain rfl (fun A vs w' hF hT hb hd => ?_)
    have e1 : A.eval (.tmp 61) = .bool true := (hT 61 18 (by simp) rfl).trans (hd ⟨18, .data⟩ (by simp) rfl)
    exact BigFrame.wp_assign _ rfl ⟨_, rfl, e1, Below.refl _ _⟩
  case fin =>
    intro A vs w' hA hb hG
    have e6 : A.eval (.tmp 4) = .bool true := (hA.2.2.2 4 19 (by simp) rfl).trans (hG 19 (by decide))
    have hd : A.defers = [] := hA.1
    clear hG hA
    go_wp2
    refine bodyPost_ret (v := .bool true) ?_ hd ⟨rfl, q2.trans (hb.mono q2.size)⟩
    rw [← e6]
    exact results_tmp rfl _ _ _
end Go.Proofs.Ytlmoidnlfabgbaa
