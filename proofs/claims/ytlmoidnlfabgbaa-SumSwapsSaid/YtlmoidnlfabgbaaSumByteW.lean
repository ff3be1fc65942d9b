/-
  THE WALK OF SumByte: whatever the text, the place and the byte: true, and nothing that lay has turned.
-/
import Derived.WalkKit
import Derived.WalkSpells
import Derived.WalkLawsBesides
import Derived.Lib.Hide
import Derived.Shelf.Abstract
import Derived.Deep.Cut
import Derived.Test.YtlmoidnlfabgbaaProg
import Derived.Test.YtlmoidnlfabgbaaByte
import Derived.Test.YtlmoidnlfabgbaaSumM
import Derived.Test.YtlmoidnlfabgbaaSumA
import Derived.Test.YtlmoidnlfabgbaaSumB
import Derived.Test.YtlmoidnlfabgbaaSumC
import Derived.Test.YtlmoidnlfabgbaaMake
import Derived.Test.YtlmoidnlfabgbaaGuard
import Derived.Test.YtlmoidnlfabgbaaOps
namespace Go.Proofs.Ytlmoidnlfabgbaa
open Go.RowKit Go.Shelf
theorem u8_of {n : Int} (h0 : 0 ≤ n) (h1 : n < 256) : ∃ y : UInt8, n = (y.toNat : Int) := ⟨UInt8.ofNat n.toNat, by simp; omega⟩
theorem Rd.cellAt {B : Nat} {w : World} {ad : Option Addr} {n c : Nat} {xs : List UInt8} (h : Rd B w (.slice ad n c) xs) (k : Nat) (hk : k < xs.length) :
    ∃ b off, ad = some ⟨b, off, none⟩ ∧ b < B ∧ ∀ j (hj : j < xs.length), w.cell? ⟨b, off + j, none⟩ = some (.int .u8 (xs[j].toNat : Int)) := by
  rcases h with ⟨a, c', h, _, rfl⟩ | ⟨b, off, cap, h, hBb, h1, h2, hc⟩
  · exact absurd hk (Nat.not_lt_zero _)
  · cases h
    exact ⟨b, off, rfl, hBb, fun j hj => hc j _ (bv_get xs j hj)⟩
theorem set_split (xs : List UInt8) (k : Nat) (hk : k < xs.length) (y : UInt8) : xs = xs.take k ++ xs[k] :: xs.drop (k + 1) ∧ xs.set k y = xs.take k ++ y :: xs.drop (k + 1) := by
  refine ⟨?_, ?_⟩
  · rw [← List.drop_eq_getElem_cons hk, List.take_append_drop]
  · rw [List.set_eq_take_append_cons_drop, if_pos hk]
theorem sum_set (xs : List UInt8) (k : Nat) (hk : k < xs.length) (y : UInt8) : sumT xs = sumT (xs.set k y) ↔ xs[k] = y := by
  obtain ⟨h1, h2⟩ := set_split xs k hk y
  have h := sum_byte (xs.take k) (xs.drop (k + 1)) xs[k] y
  rw [← h1, ← h2] at h
  exact h
set_option maxRecDepth 100000 in
set_option maxHeartbeats 1000000 in
theorem SumByte_w (w : World) {a0 : Option Addr} {n0 c0 : Nat} {xs : List UInt8} (hx : Rd w.heap.size w (.slice a0 n0 c0) xs) {at' : Int} (p0 : 0 ≤ at') (p1 : at' < 65536) {by' : Int} (z0 : 0 ≤ by') (z1 : by' < 256) :
    Calls Try.prog 5 #[.slice a0 n0 c0, .int .u16 at', .int .u8 by'] w fun e w' => e = .returned (.bool true) ∧ Below w.heap.size w w' := by
  obtain rfl : n0 = xs.length := hx.len.1
  by_cases h : 300 < xs.length
  · have d : decide ((300 : Int) < xs.length) = true := by simp; omega
    go_enter Try.func5, Try.ntmps5
    go_wp2_with fail
    refine (awake_any _).mono ?_
    rintro e w1 ⟨rfl, hb⟩
    go_wp2
    go_ret
    exact ⟨rfl, hb⟩
  have d1 : decide ((300 : Int) < xs.length) = false := by simp; omega
  have l1 : xs.length ≤ 300 := by omega
  clear h
  by_cases h : xs.length = 0
  · have d : ((xs.length : Int) == 0) = true := beq_iff_eq.2 (by omega)
    go_enter Try.func5, Try.ntmps5
    go_wp2_with fail
    refine (awake_any _).mono ?_
    rintro e w1 ⟨rfl, hb⟩
    go_wp2
    go_ret
    exact ⟨rfl, hb⟩
  have d2 : ((xs.length : Int) == 0) = false := beq_eq_false_iff_ne.2 (by omega)
  have l2 : 0 < xs.length := by omega
  clear h
  obtain ⟨y, rfl⟩ := u8_of z0 z1
  obtain ⟨k, hkk⟩ : ∃ k : Nat, at' % (xs.length : Int) = k := Int.eq_ofNat_of_zero_le (Int.emod_nonneg _ (by omega))
  have hk : k < xs.length := by have := Int.emod_lt_of_pos at' (show (0 : Int) < xs.length by omega); omega
  have Dd := sum_set xs k hk y
  have D : decide ((sumT xs : Int) = (sumT (xs.set k y) : Nat)) = decide ((xs[k].toNat : Int) = y.toNat) := by
    rw [decide_eq_decide]
    rw [Int.ofNat_inj, Dd, Int.ofNat_inj]
    exact UInt8.toNat_inj.symm
  have HD := Lib.hid D
  clear D Dd
  go_enter Try.func5, Try.ntmps5
  go_wp2_with fail
  refine (awake_any _).mono ?_
  rintro e w1 ⟨rfl, q⟩
  have hx1 := hx.below q
  have q1 := q.size
  go_wp2_with (first
    | (refine wpList_lit byP rfl [] rfl rfl rfl ?_ (by simp); intro g1 k1 u1 hF; have hx2 := hx1.below (hF.1.mono q1))
    | (at_builtin; refine wpList_append byP rfl rfl rfl hF.2 rfl hx2 hF.1.size ?_ ?hl1; intro ad1 m1 cq u2 hO1 hg1 hb1; rw [List.nil_append] at hO1; obtain ⟨g, cp, hv, hgb, hgl, hcp, hcm, hfz, hcl, hst⟩ := hO1.some (by simpa using l2); cases hv; have hcl1 := hcl k (by simpa using hk); have hfz1 := hfz k))
  case hl1 => simp; omega
  have hc0 := (hst k y (by simpa using hk)).rd
  have q2 := ((q.trans (hF.1.mono q1)).trans (hb1.mono q1)).setCell (p := ⟨g, k, none⟩) (Nat.le_trans q1 hgb) (.int .u8 (y.toNat : Int))
  clear hst hcl1 hfz1 hcl hfz hcm hcp hgl hgb hO1 hg1 hb1 hF hx2 hx1 q1 q hkk
  generalize u2.setCell ⟨g, k, none⟩ (.int .u8 (y.toNat : Int)) = W at hc0 q2 ⊢
  have hc := hc0
  have hr := (hx.below q2).mono q2.size
  obtain ⟨b, off, rfl, hbl, hcells⟩ := hr.cellAt k hk
  have hcell := hcells k hk
  clear hcells hc0
  have es : ∀ args w, (callFunc 12 args).run Try.prog w = .ok (.enter 12 args) w := enters_of Try.func12 (by kernel_rfl) rfl
  refine wp_region_gsa (by kernel_rfl) (by kernel_rfl) [sgEq (.bool true), sgEq (.bool true), sgEq (.slice (some ⟨b, off, none⟩) xs.length c0), sgEq (.int .u32 (sumT xs)), sgEq (.slice (some ⟨g, 0, none⟩) xs.length cq), sgEq (.int .u32 (sumT (xs.set k y))), sgEq (.bool (decide ((sumT xs : Int) = (sumT (xs.set k y) : Nat)))), sgEq (.slice (some ⟨b, off, none⟩) xs.length c0), sgEq (.int .i64 (k : Nat)), sgEq (.pointer (some ⟨b, off + k, none⟩)), sgEq (.int .u8 (xs[k]'hk).toNat), sgEq (.int .u8 (y.toNat : Nat)), sgEq (.bool (decide (((xs[k]'hk).toNat : Int) = y.toNat))), sgEq (.bool true), sgEq (.bool true), sgEq (.bool true)]
    ⟨?o0, ?o1, ?o2, ?o3, ?o4, ?o5, ?o6, ?o7, ?o8, ?o9, ?o10, ?o11, ?o12, ?o13, ?o14, ?o15, trivial⟩ ?fin
  case o0 =>
    refine GdOp.plain rfl (fun A vs w' hF hT hb hd => ?_)
    have e1 : A.eval (.tmp 7) = .bool true := hF 7 rfl
    exact BigFrame.wp_move _ rfl ⟨_, rfl, e1, Below.refl _ _⟩
  case o1 =>
    refine GdOp.plain rfl (fun A vs w' hF hT hb hd => ?_)
    have e1 : A.eval (.tmp 32) = .bool true := (hT 32 0 (by simp) rfl).trans (hd ⟨0, .data⟩ (by simp) rfl)
    exact BigFrame.wp_move _ rfl ⟨_, rfl, e1, Below.refl _ _⟩
  case o2 =>
    refine GdOp.taken rfl ⟨_, _, rfl, rfl, by simp⟩ (by kernel_rfl) (fun w v h => h) (fun A vs w' hF hT hb hd => ?_)
    have e1 : A.eval (.tmp 0) = .slice (some ⟨b, off, none⟩) xs.length c0 := hF 0 rfl
    exact BigFrame.wp_move _ rfl ⟨_, rfl, e1, Below.refl _ _⟩
  case o3 =>
    refine GdOp.taken rfl ⟨_, _, rfl, rfl, by simp⟩ (by kernel_rfl) (fun w v h => h) (fun A vs w' hF hT hb hd => ?_)
    have e1 : A.eval (.tmp 34) = .slice (some ⟨b, off, none⟩) xs.length c0 := (hT 34 2 (by simp) rfl).trans (hd ⟨2, .data⟩ (by simp) rfl)
    refine wp_callFn rfl es (args := #[.slice (some ⟨b, off, none⟩) xs.length c0]) (by simp [e1]) ((sum_any _ _ hb.size (hr.below hb)).mono ?_)
    rintro e w2 ⟨rfl, hb2⟩
    exact ⟨_, rfl, _, rfl, rfl, hb2⟩
  case o4 =>
    refine GdOp.taken rfl ⟨_, _, rfl, rfl, by simp⟩ (by kernel_rfl) (fun w v h => h) (fun A vs w' hF hT hb hd => ?_)
    have e1 : A.eval (.tmp 9) = .slice (some ⟨g, 0, none⟩) xs.length cq := hF 9 rfl
    exact BigFrame.wp_move _ rfl ⟨_, rfl, e1, Below.refl _ _⟩
  case o5 =>
    refine GdOp.taken rfl ⟨_, _, rfl, rfl, by simp⟩ (by kernel_rfl) (fun w v h => h) (fun A vs w' hF hT hb hd => ?_)
    have e1 : A.eval (.tmp 36) = .slice (some ⟨g, 0, none⟩) xs.length cq := (hT 36 4 (by simp) rfl).trans (hd ⟨4, .data⟩ (by simp) rfl)
    refine wp_callFn rfl es (args := #[.slice (some ⟨g, 0, none⟩) xs.length cq]) (by simp [e1]) ((sum_any _ _ hb.size (hc.below hb)).mono ?_)
    rintro e w2 ⟨rfl, hb2⟩
    exact ⟨_, rfl, _, rfl, rfl, hb2⟩
  case o6 =>
    refine GdOp.taken rfl ⟨_, _, rfl, rfl, by simp⟩ (by kernel_rfl) (fun w v h => h) (fun A vs w' hF hT hb hd => ?_)
    have e1 : A.eval (.tmp 35) = .int .u32 (sumT xs) := (hT 35 3 (by simp) rfl).trans (hd ⟨3, .data⟩ (by simp) rfl)
    have e2 : A.eval (.tmp 37) = .int .u32 (sumT (xs.set k y)) := (hT 37 5 (by simp) rfl).trans (hd ⟨5, .data⟩ (by simp) rfl)
    exact wp_eqlI rfl e1 e2 ⟨_, rfl, rfl, Below.refl _ _⟩
  case o7 =>
    refine GdOp.taken rfl ⟨_, _, rfl, rfl, by simp⟩ (by kernel_rfl) (fun w v h => h) (fun A vs w' hF hT hb hd => ?_)
    have e1 : A.eval (.tmp 0) = .slice (some ⟨b, off, none⟩) xs.length c0 := hF 0 rfl
    exact BigFrame.wp_move _ rfl ⟨_, rfl, e1, Below.refl _ _⟩
  case o8 =>
    refine GdOp.taken rfl ⟨_, _, rfl, rfl, by simp⟩ (by kernel_rfl) (fun w v h => h) (fun A vs w' hF hT hb hd => ?_)
    have e1 : A.eval (.tmp 8) = .int .i64 (k : Nat) := hF 8 rfl
    exact BigFrame.wp_move _ rfl ⟨_, rfl, e1, Below.refl _ _⟩
  case o9 =>
    refine GdOp.taken rfl ⟨_, _, rfl, rfl, by simp⟩ (by kernel_rfl) (fun w v h => h) (fun A vs w' hF hT hb hd => ?_)
    have e1 : A.eval (.tmp 39) = .slice (some ⟨b, off, none⟩) xs.length c0 := (hT 39 7 (by simp) rfl).trans (hd ⟨7, .data⟩ (by simp) rfl)
    have e2 : A.eval (.tmp 40) = .int .i64 (k : Nat) := (hT 40 8 (by simp) rfl).trans (hd ⟨8, .data⟩ (by simp) rfl)
    exact wp_ix (e := 5) rfl (by kernel_rfl) (by kernel_rfl) e1 e2 rfl hk ⟨_, rfl, rfl, Below.refl _ _⟩
  case o10 =>
    refine GdOp.taken rfl ⟨_, _, rfl, rfl, by simp⟩ (by kernel_rfl) (fun w v h => h) (fun A vs w' hF hT hb hd => ?_)
    have e1 : A.eval (.tmp 41) = .pointer (some ⟨b, off + k, none⟩) := (hT 41 9 (by simp) rfl).trans (hd ⟨9, .data⟩ (by simp) rfl)
    exact wp_ld_int (k := .u8) rfl e1 (by kernel_rfl) ((hb.cell (p := ⟨b, off + k, none⟩) hbl).trans hcell) ⟨_, rfl, rfl, Below.refl _ _⟩
  case o11 =>
    refine GdOp.taken rfl ⟨_, _, rfl, rfl, by simp⟩ (by kernel_rfl) (fun w v h => h) (fun A vs w' hF hT hb hd => ?_)
    have e1 : A.eval (.tmp 2) = .int .u8 (y.toNat : Nat) := hF 2 rfl
    exact BigFrame.wp_move _ rfl ⟨_, rfl, e1, Below.refl _ _⟩
  case o12 =>
    refine GdOp.taken rfl ⟨_, _, rfl, rfl, by simp⟩ (by kernel_rfl) (fun w v h => h) (fun A vs w' hF hT hb hd => ?_)
    have e1 : A.eval (.tmp 42) = .int .u8 (xs[k]'hk).toNat := (hT 42 10 (by simp) rfl).trans (hd ⟨10, .data⟩ (by simp) rfl)
    have e2 : A.eval (.tmp 43) = .int .u8 (y.toNat : Nat) := (hT 43 11 (by simp) rfl).trans (hd ⟨11, .data⟩ (by simp) rfl)
    exact wp_eqlI rfl e1 e2 ⟨_, rfl, rfl, Below.refl _ _⟩
  case o13 =>
    refine GdOp.taken rfl ⟨_, _, rfl, rfl, by simp⟩ (by kernel_rfl) (fun w v h => h) (fun A vs w' hF hT hb hd => ?_)
    have e1 : A.eval (.tmp 38) = .bool (decide ((sumT xs : Int) = (sumT (xs.set k y) : Nat))) := (hT 38 6 (by simp) rfl).trans (hd ⟨6, .data⟩ (by simp) rfl)
    have e2 : A.eval (.tmp 44) = .bool (decide (((xs[k]'hk).toNat : Int) = y.toNat)) := (hT 44 12 (by simp) rfl).trans (hd ⟨12, .data⟩ (by simp) rfl)
    exact wp_eqlB (by kernel_rfl) rfl e1 e2 ⟨_, rfl, by rw [HD.out, beq_self_eq_true]; rfl, Below.refl _ _⟩
  case o14 =>
    refine GdOp.plain rfl (fun A vs w' hF hT hb hd => ?_)
    have e1 : A.eval (.tmp 33) = .bool true := (hT 33 1 (by simp) rfl).trans (hd ⟨1, .data⟩ (by simp) rfl)
    have e2 : A.eval (.tmp 45) = .bool true := (hT 45 13 (by simp) rfl).trans (hd ⟨13, .data⟩ (by simp) rfl)
    exact wp_pk rfl e1 (fun _ => e2) (by simp) ⟨_, rfl, rfl, Below.refl _ _⟩
  case o15 =>
    refine GdOp.plain rfl (fun A vs w' hF hT hb hd => ?_)
    have e1 : A.eval (.tmp 46) = .bool true := (hT 46 14 (by simp) rfl).trans (hd ⟨14, .data⟩ (by simp) rfl)
    exact BigFrame.wp_assign _ rfl ⟨_, rfl, e1, Below.refl _ _⟩
  case fin =>
    intro A vs w' hA hb hG
    have e6 : A.eval (.tmp 6) = .bool true := (hA.2.2.2 6 15 (by simp) rfl).trans (hG 15 (by decide))
    have hd : A.defers = [] := hA.1
    clear hG hA
    go_wp2
    refine bodyPost_ret (v := .bool true) ?_ hd ⟨rfl, q2.trans (hb.mono q2.size)⟩
    rw [← e6]
    exact results_tmp rfl _ _ _
end Go.Proofs.Ytlmoidnlfabgbaa
