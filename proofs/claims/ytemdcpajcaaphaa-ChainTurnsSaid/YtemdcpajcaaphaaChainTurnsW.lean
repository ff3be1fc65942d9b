/-
  THE WALK OF ChainTurns: whatever versions, whatever one more, whatever stamp: true, and nothing that lay has turned; chain's functions by their contracts.
-/
import Derived.WalkKit
import Derived.WalkSpells
import Derived.WalkLawsBesides
import Derived.Lib.Hide
import Derived.Deep.Cut
import Derived.Shelf.Abstract
import Derived.Test.YtemdcpajcaaphaaProg
import Derived.Test.YtemdcpajcaaphaaByte
import Derived.Test.YtemdcpajcaaphaaAux
import Derived.Test.YtemdcpajcaaphaaVer
import Derived.Test.YtemdcpajcaaphaaVerM
import Derived.Test.YtemdcpajcaaphaaVerR
import Derived.Test.YtemdcpajcaaphaaVerD
import Derived.Test.YtemdcpajcaaphaaVerE
import Derived.Test.YtemdcpajcaaphaaVerF
import Derived.Test.YtemdcpajcaaphaaVerN
import Derived.Test.YtemdcpajcaaphaaVerX
import Derived.Test.YtemdcpajcaaphaaGuard
import Derived.Test.YtemdcpajcaaphaaOps
import Derived.Test.YtemdcpajcaaphaaChainInstallsW
namespace Go.Proofs.Ytemdcpajcaaphaa
open Go.RowKit Go.Shelf
def sgVl (l : List Ver) : SG := ⟨fun w v => ∃ a c, v = .slice a l.length c ∧ RdL Elt.ver (· < w.heap.size) w (.slice a l.length c) l, fun _ _ _ ⟨a, c, h, hr⟩ hb => ⟨a, c, h, (hr.below hb).weak (fun _ hk => Nat.lt_of_lt_of_le hk hb.size)⟩⟩
def sgVt (l : List Ver) (er : Nat) : SG := ⟨fun w v => ∃ a c, v = .tuple #[.slice a l.length c, .int .i64 er] ∧ RdL Elt.ver (· < w.heap.size) w (.slice a l.length c) l, fun _ _ _ ⟨a, c, h, hr⟩ hb => ⟨a, c, h, (hr.below hb).weak (fun _ hk => Nat.lt_of_lt_of_le hk hb.size)⟩⟩
set_option maxRecDepth 100000 in
set_option maxHeartbeats 2000000 in
theorem ChainTurns_w (hC : ChnC) (w : World) {a0 : Option Addr} {n0 c0 : Nat} {l : List Ver} (hl0 : RdL Elt.ver (· < w.heap.size) w (.slice a0 n0 c0) l) {x : Ver} {Ax : Option Addr} {nx Cx : Nat} (hx0 : RdS (· < w.heap.size) w (.slice Ax nx Cx) x.value) (hxi : I64' x.stamp) {s : Int} (hs : (Lit.int .i64 s).wf = true) :
    Calls Try.prog 6 #[.slice a0 n0 c0, .agg #[.int .i64 x.stamp, .bool x.gone, .slice Ax nx Cx], .int .i64 s] w fun e w' => e = .returned (.bool true) ∧ Below w.heap.size w w' := by
  obtain ⟨rfl, hnc, hcm⟩ := hl0.len
  obtain ⟨rfl, hxc, hxm⟩ := hx0.len
  have hlm : l.length ≤ 9223372036854775807 := by unfold maxLen at hcm; omega
  have hlx : x.value.length ≤ 9223372036854775807 := by unfold maxLen at hxm; omega
  replace hs := i64w hs
  have bx := TriV.new w 25 (.int .i64 x.stamp) (.bool x.gone) (.slice Ax x.value.length Cx)
  have q : Below w.heap.size w (w.alloc (.cells #[.int .i64 x.stamp, .bool x.gone, .slice Ax x.value.length Cx] 25)) := (Below.refl _ _).alloc (Nat.le_refl _) _
  go_enter Try.func6, Try.ntmps6
  go_wp2_with fail
  generalize w.alloc (.cells #[.int .i64 x.stamp, .bool x.gone, .slice Ax x.value.length Cx] 25) = W0 at *
  refine (hC.awake W0).mono ?_
  rintro e v1 ⟨rfl, hb⟩
  replace bx := bx.below hb bx.lt
  replace q := q.trans (hb.mono q.size)
  go_wp2_with fail
  refine (few_any _ (hl0.keep (w' := v1) (fun k hk => q.block k hk))).mono ?_
  rintro e v2 ⟨r, rfl, hf, rfl⟩
  have x2 := bx.cell2
  cases r
  · go_wp2_with fail
    go_ret
    exact ⟨rfl, q⟩
  obtain ⟨hn100, hv100⟩ := hf rfl
  by_cases hxl : 100 < x.value.length
  · have d : decide ((100 : Int) < x.value.length) = true := by rw [decide_eq_true_iff]; omega
    go_wp2_with fail
    go_ret
    exact ⟨rfl, q⟩
  have d : decide ((100 : Int) < x.value.length) = false := by rw [decide_eq_false_iff_not]; omega
  have hx100 : x.value.length ≤ 1000 := by omega
  have hsm : smallV l := ⟨by omega, fun y hy => by have := hv100 y hy; omega⟩
  clear hf hxl hv100
  go_wp2_with fail
  refine (hC.check _ (hl0.keep (w' := v2) (fun k hk => q.block k hk))).mono ?_
  rintro e vk ⟨rfl, hb⟩
  clear x2
  replace bx := bx.below hb bx.lt
  replace q := q.trans (hb.mono q.size)
  clear hb d
  have x0 := bx.cell0
  have x1 := bx.cell1
  have x2 := bx.cell2
  rcases (Decidable.em (okV l)).symm with hk | hk
  · rw [decide_eq_false hk]
    go_wp2_with fail
    go_ret
    exact ⟨rfl, q⟩
  rw [decide_eq_true hk]
  by_cases hat : x.stamp ≤ s
  · have d1 : decide (x.stamp ≤ s) = true := decide_eq_true hat
    go_wp2_with fail
    go_ret
    exact ⟨rfl, q⟩
  have d1 : decide (x.stamp ≤ s) = false := decide_eq_false hat
  go_wp2_with fail
  refine (hC.install _ (hl0.keep (w' := vk) (fun k hk => q.block k hk)) hsm (hx0.keep (fun k hk => q.block k hk)) hx100 hxi).mono ?_
  rintro e v3 hE
  clear x0 x1 x2 d1
  have hvo := vacV_ok hk s
  have hvs : smallV (vacV l s) := ⟨Nat.le_trans (vacV_len l s) hsm.1, fun y hy => hsm.2 y (hvo.2 y hy)⟩
  obtain ⟨ma, ea, hva⟩ : ∃ m e, instV l x = (m, e) := ⟨_, _, rfl⟩
  obtain ⟨mb, eb, hvb⟩ : ∃ m e, instV (vacV l s) x = (m, e) := ⟨_, _, rfl⟩
  have hR := Lib.hid (show ea = 0 → eb = 0 ∧ vacV ma s = mb ∧ smallV ma from fun h => by
    rcases instV_cases l x with ⟨er, her, hv⟩ | ⟨hv, _, hm, hst⟩
    · rw [hva] at hv; injection hv with h1 h2; exact absurd (h2.symm.trans h) her
    · rw [hva] at hv
      injection hv with h1 h2
      have h3 := instV_yes hvo.1 hm (fun y hy => hst y (hvo.2 y hy))
      rw [hvb] at h3
      injection h3 with h3 h4
      refine ⟨h4, ?_, ?_⟩
      · rw [h1, h3]; exact vac_snoc hk hm hst (by omega)
      · rw [h1]; exact ⟨by rw [List.length_append]; simp; omega, fun y hy => (List.mem_append.1 hy).elim (fun h => hsm.2 y h) (fun h => by rw [List.mem_singleton.1 h]; exact hx100)⟩)
  obtain ⟨am, cm, rfl, hM, hb⟩ := InstNew.to hva hE
  replace bx := bx.below hb bx.lt
  replace q := q.trans (hb.mono q.size)
  clear hE hb hk hat hva hvo
  obtain ⟨lv, hlv⟩ : ∃ lv, lv = vacV l s := ⟨_, rfl⟩
  have HVAC := Lib.hid hlv.symm
  rw [← hlv] at hvs hvb
  clear hlv
  have HB := Lib.hid hvb
  clear hvb
  go_upto_region 5 with (fail)
  refine wp_region_gsg (by kernel_rfl) (by kernel_rfl) [sgEq (.slice a0 l.length c0), sgEq (.int .i64 s), sgVl lv, sgEq (.agg #[.int .i64 x.stamp, .bool x.gone, .slice Ax x.value.length Cx]), sgVt mb eb, sgVt mb eb, sgVl mb, sgEq (.int .i64 (eb : Nat)), sgVl mb, sgEq (.int .i64 (eb : Nat))]
    ⟨?o0, ?o1, ?o2, ?o3, ?o4, ?o5, ?o6, ?o7, ?o8, ?o9, trivial⟩ ?fin
  case o0 =>
    refine GdOp.plain rfl (fun A vs w' hF hT hb hd => ?_)
    have e1 : A.eval (.tmp 0) = .slice a0 l.length c0 := hF 0 rfl
    exact BigFrame.wp_move _ rfl ⟨_, rfl, e1, Below.refl _ _⟩
  case o1 =>
    refine GdOp.plain rfl (fun A vs w' hF hT hb hd => ?_)
    have e1 : A.eval (.tmp 2) = .int .i64 s := hF 2 rfl
    exact BigFrame.wp_move _ rfl ⟨_, rfl, e1, Below.refl _ _⟩
  case o2 =>
    refine GdOp.plain rfl (fun A vs w' hF hT hb hd => ?_)
    have e1 : A.eval (.tmp 42) = .slice a0 l.length c0 := (hT 42 0 (by simp) rfl).trans (hd ⟨0, .data⟩ (by simp) rfl)
    have e2 : A.eval (.tmp 43) = .int .i64 s := (hT 43 1 (by simp) rfl).trans (hd ⟨1, .data⟩ (by simp) rfl)
    refine wp_callFn rfl (enters_of Try.func17 (by kernel_rfl) rfl) (args := #[.slice a0 l.length c0, .int .i64 s]) (by simp [e1, e2]) ((hC.vacuum w' (hl0.keep (w' := w') (fun k hk => (q.trans (hb.mono q.size)).block k hk)) hsm hs).mono ?_)
    rintro e w2 ⟨a5, c5, rfl, r5, hb2⟩
    exact ⟨_, rfl, _, rfl, ⟨a5, c5, by rw [HVAC.out], by rw [HVAC.out] at r5; exact r5.weak (fun k hk => hk.2)⟩, hb2⟩
  case o3 =>
    refine GdOp.plain rfl (fun A vs w' hF hT hb hd => ?_)
    have e1 : A.eval (.tmp 4) = .pointer (some ⟨w.heap.size, 0, none⟩) := hF 4 rfl
    have hb3 := bx.below hb bx.lt
    exact wp_load3 verS rfl e1 hb3.cell0 hb3.cell1 hb3.cell2 ⟨_, rfl, rfl, Below.refl _ _⟩
  case o4 =>
    refine GdOp.plain rfl (fun A vs w' hF hT hb hd => ?_)
    have e2 : A.eval (.tmp 45) = .agg #[.int .i64 x.stamp, .bool x.gone, .slice Ax x.value.length Cx] := (hT 45 3 (by simp) rfl).trans (hd ⟨3, .data⟩ (by simp) rfl)
    obtain ⟨a5, c5, q5, r5⟩ := hd ⟨2, .data⟩ (by simp) rfl
    have e3 : A.eval (.tmp 44) = .slice a5 lv.length c5 := (hT 44 2 (by simp) rfl).trans q5
    refine wp_callFn rfl (enters_of Try.func14 (by kernel_rfl) rfl) (args := #[.slice a5 lv.length c5, .agg #[.int .i64 x.stamp, .bool x.gone, .slice Ax x.value.length Cx]]) (by simp [e3, e2]) ((hC.install w' r5 hvs ((hx0.keep (w' := w') (fun k hk => (q.trans (hb.mono q.size)).block k hk)).weak (fun k hk => Nat.lt_of_lt_of_le hk (q.trans (hb.mono q.size)).size)) hx100 hxi).mono ?_)
    rintro e w2 hE
    obtain ⟨a6, c6, rfl, r6, hb2⟩ := InstNew.to HB.out hE
    exact ⟨_, rfl, _, rfl, ⟨a6, c6, rfl, r6.weak (fun k hk => hk.2)⟩, hb2⟩
  case o5 =>
    refine GdOp.plain rfl (fun A vs w' hF hT hb hd => ?_)
    obtain ⟨a5, c5, q5, r5⟩ := hd ⟨4, .data⟩ (by simp) rfl
    exact BigFrame.wp_move _ rfl ⟨_, rfl, ⟨a5, c5, (hT 46 4 (by simp) rfl).trans q5, r5⟩, Below.refl _ _⟩
  case o6 =>
    refine GdOp.plain rfl (fun A vs w' hF hT hb hd => ?_)
    obtain ⟨a5, c5, q5, r5⟩ := hd ⟨5, .data⟩ (by simp) rfl
    exact wp_ex rfl ((hT 41 5 (by simp) rfl).trans q5) rfl ⟨_, rfl, ⟨a5, c5, rfl, r5⟩, Below.refl _ _⟩
  case o7 =>
    refine GdOp.plain rfl (fun A vs w' hF hT hb hd => ?_)
    obtain ⟨a5, c5, q5, r5⟩ := hd ⟨5, .data⟩ (by simp) rfl
    exact wp_ex rfl ((hT 41 5 (by simp) rfl).trans q5) rfl ⟨_, rfl, rfl, Below.refl _ _⟩
  case o8 =>
    refine GdOp.plain rfl (fun A vs w' hF hT hb hd => ?_)
    obtain ⟨a5, c5, q5, r5⟩ := hd ⟨6, .data⟩ (by simp) rfl
    exact BigFrame.wp_assign _ rfl ⟨_, rfl, ⟨a5, c5, (hT 47 6 (by simp) rfl).trans q5, r5⟩, Below.refl _ _⟩
  case o9 =>
    refine GdOp.plain rfl (fun A vs w' hF hT hb hd => ?_)
    have e1 : A.eval (.tmp 48) = .int .i64 (eb : Nat) := (hT 48 7 (by simp) rfl).trans (hd ⟨7, .data⟩ (by simp) rfl)
    exact BigFrame.wp_assign _ rfl ⟨_, rfl, e1, Below.refl _ _⟩
  case fin =>
    intro vs w' hb hG
    have e0 : vs 0 = .slice a0 l.length c0 := hG 0 (by decide)
    have e1 : vs 1 = .int .i64 s := hG 1 (by decide)
    obtain ⟨x2, y2, e2, _⟩ := hG 2 (by decide)
    have e3 : vs 3 = .agg #[.int .i64 x.stamp, .bool x.gone, .slice Ax x.value.length Cx] := hG 3 (by decide)
    obtain ⟨x4, y4, e4, _⟩ := hG 4 (by decide)
    obtain ⟨x5, y5, e5, _⟩ := hG 5 (by decide)
    obtain ⟨x6, y6, e6, _⟩ := hG 6 (by decide)
    have e7 : vs 7 = .int .i64 (eb : Nat) := hG 7 (by decide)
    obtain ⟨ab, cb, e8, hMb⟩ := hG 8 (by decide)
    have e9 : vs 9 = .int .i64 (eb : Nat) := hG 9 (by decide)
    simp only [putAll, e0, e1, e2, e3, e4, e5, e6, e7, e8, e9]
    clear hG e0 e1 e2 e3 e4 e5 e6 e7 e8 e9
    replace hM := hM.below hb
    replace bx := bx.below hb bx.lt
    replace q := q.trans (hb.mono q.size)
    clear hb
    go_simp
    by_cases h0 : ea = 0
    · obtain ⟨hb0, hvac, hsa⟩ := hR.out h0
      subst h0
      subst hb0
      go_wp2_with fail
      refine (hC.vacuum _ hM hsa hs).mono ?_
      rw [hvac]
      rintro e v6 ⟨ac, cc, rfl, hMc, hb⟩
      replace q := q.trans (hb.mono q.size)
      replace hMb := hMb.below hb
      clear hb hvac
      go_wp2_with fail
      refine (sameV_any _ hMc hMb).mono ?_
      rw [decide_eq_true (show mb = mb from rfl)]
      rintro e v7 ⟨rfl, hb⟩
      replace q := q.trans (hb.mono q.size)
      go_wp2_with fail
      go_ret
      exact ⟨rfl, q⟩
    · have de : ((ea : Int) != 0) = true := by rw [bne_iff_ne]; omega
      clear h0
      go_wp2_with fail
      go_ret
      exact ⟨rfl, q⟩
end Go.Proofs.Ytemdcpajcaaphaa
