/-
  THE WALK OF ChainTells: whatever versions, whatever one more, whatever stamp: true, and nothing that lay has turned; chain's functions by their contracts.
-/
import Derived.WalkKit
import Derived.WalkSpells
import Derived.WalkLawsBesides
import Derived.Lib.Hide
import Derived.Deep.Cut
import Derived.Shelf.Abstract
import Derived.Test.YtemdcpajcaaphaaProg
import Derived.Test.YtemdcpajcaaphaaByte
import Derived.Test.YtemdcpajcaaphaaAux
import Derived.Test.YtemdcpajcaaphaaVer
import Derived.Test.YtemdcpajcaaphaaVerM
import Derived.Test.YtemdcpajcaaphaaVerR
import Derived.Test.YtemdcpajcaaphaaEll
import Derived.Test.YtemdcpajcaaphaaVerC
import Derived.Test.YtemdcpajcaaphaaVerD
import Derived.Test.YtemdcpajcaaphaaVerE
import Derived.Test.YtemdcpajcaaphaaVerF
import Derived.Test.YtemdcpajcaaphaaVerN
import Derived.Test.YtemdcpajcaaphaaVerX
import Derived.Test.YtemdcpajcaaphaaGuard
import Derived.Test.YtemdcpajcaaphaaOps
import Derived.Test.YtemdcpajcaaphaaChainInstallsW
namespace Go.Proofs.Ytemdcpajcaaphaa
open Go.RowKit Go.Shelf
theorem InstEnd.to {w w' : World} {l m : List Ver} {x : Ver} {er : Nat} {e : Ending} (h : instV l x = (m, er)) (h2 : InstEnd w l x e w') : ∃ a c, e = .returned (.tuple #[.slice a m.length c, .int .i64 (er : Nat)]) ∧ RdL Elt.ver (fun k => w.heap.size ≤ k ∧ k < w'.heap.size) w' (.slice a m.length c) m ∧ Below w.heap.size w w' := by
  unfold InstEnd at h2; rw [h] at h2
  obtain ⟨a, c, rfl, hO, hb⟩ := h2
  exact ⟨a, c, rfl, hO.rdL.weak (fun k hk => ⟨hk.1.elim id id, hk.2⟩), hb⟩
set_option maxRecDepth 100000 in
set_option maxHeartbeats 2000000 in
theorem ChainTells_w (hC : ChnC) (w : World) {a0 : Option Addr} {n0 c0 : Nat} {l : List Ver} (hl0 : RdL Elt.ver (· < w.heap.size) w (.slice a0 n0 c0) l) {x : Ver} {Ax : Option Addr} {nx Cx : Nat} (hx0 : RdS (· < w.heap.size) w (.slice Ax nx Cx) x.value) (hxi : I64' x.stamp) {s : Int} (hs : (Lit.int .i64 s).wf = true) :
    Calls Try.prog 3 #[.slice a0 n0 c0, .agg #[.int .i64 x.stamp, .bool x.gone, .slice Ax nx Cx], .int .i64 s] w fun e w' => e = .returned (.bool true) ∧ Below w.heap.size w w' := by
  obtain ⟨rfl, hnc, hcm⟩ := hl0.len
  obtain ⟨rfl, hxc, hxm⟩ := hx0.len
  have hlm : l.length ≤ 9223372036854775807 := by unfold maxLen at hcm; omega
  have hlx : x.value.length ≤ 9223372036854775807 := by unfold maxLen at hxm; omega
  replace hs := i64w hs
  have bx := TriV.new w 25 (.int .i64 x.stamp) (.bool x.gone) (.slice Ax x.value.length Cx)
  have q : Below w.heap.size w (w.alloc (.cells #[.int .i64 x.stamp, .bool x.gone, .slice Ax x.value.length Cx] 25)) := (Below.refl _ _).alloc (Nat.le_refl _) _
  go_enter Try.func3, Try.ntmps3
  go_wp2_with fail
  generalize w.alloc (.cells #[.int .i64 x.stamp, .bool x.gone, .slice Ax x.value.length Cx] 25) = W0 at *
  refine (hC.awake W0).mono ?_
  rintro e v1 ⟨rfl, hb⟩
  replace bx := bx.below hb bx.lt
  replace q := q.trans (hb.mono q.size)
  go_wp2_with fail
  refine (few_any _ (hl0.keep (w' := v1) (fun k hk => q.block k hk))).mono ?_
  rintro e v2 ⟨r, rfl, hf, rfl⟩
  have x2 := bx.cell2
  cases r
  · go_wp2_with fail
    go_ret
    exact ⟨rfl, q⟩
  obtain ⟨hn100, hv100⟩ := hf rfl
  by_cases hxl : 100 < x.value.length
  · have d : decide ((100 : Int) < x.value.length) = true := by rw [decide_eq_true_iff]; omega
    go_wp2_with fail
    go_ret
    exact ⟨rfl, q⟩
  have d : decide ((100 : Int) < x.value.length) = false := by rw [decide_eq_false_iff_not]; omega
  have hx100 : x.value.length ≤ 1000 := by omega
  have hsm : smallV l := ⟨by omega, fun y hy => by have := hv100 y hy; omega⟩
  clear hf hxl hv100
  go_wp2_with fail
  have hl2 : ∀ y ∈ l, y.value.length ≤ 1000000 := fun y hy => by have := hsm.2 y hy; omega
  have hl1 : l.length ≤ 900000 := by omega
  have hl3 : l.length ≤ 1000000 := by omega
  have hx3 : x.value.length ≤ 1000000 := by omega
  obtain ⟨mi, er, hi⟩ : ∃ m e, instV l x = (m, e) := ⟨_, _, rfl⟩
  have HI := Lib.hid hi
  clear hi
  generalize hr : readV l s = r
  have R := Lib.hid hr
  clear hr x2 d
  cases r with
  | none =>
    refine (hC.read _ (hl0.keep (w' := v2) (fun k hk => q.block k hk)) hsm hs).mono ?_
    rintro e v3 hE
    obtain ⟨av, cv, rfl, hv, hb⟩ := ReadVEnd.none R.out hE
    clear hE
    replace bx := bx.below hb bx.lt
    replace q := q.trans (hb.mono q.size)
    clear hb
    go_wp2_with fail
    refine (refReadV_any _ (hl0.keep (w' := v3) (fun k hk => q.block k hk)) s).mono ?_
    rintro e v4 hE
    obtain ⟨aw, cw, rfl, hw, hb⟩ := ReadVEnd.none R.out hE
    clear hE
    replace bx := bx.below hb bx.lt
    replace q := q.trans (hb.mono q.size)
    replace hv := hv.below hb
    clear hb
    have x0 := bx.cell0
    have x1 := bx.cell1
    have x2 := bx.cell2
    go_wp2_with fail
    refine (hC.install _ (hl0.keep (w' := v4) (fun k hk => q.block k hk)) hsm (hx0.keep (fun k hk => q.block k hk)) hx100 hxi).mono ?_
    rintro e v5 hE
    obtain ⟨am, cm, rfl, hM, hb⟩ := InstNew.to HI.out hE
    clear hE x0 x1 x2
    replace bx := bx.below hb bx.lt
    replace q := q.trans (hb.mono q.size)
    replace hv := hv.below hb
    replace hw := hw.below hb
    clear hb
    have x0 := bx.cell0
    have x1 := bx.cell1
    have x2 := bx.cell2
    go_wp2_with fail
    refine (refInstall_any v5 (hl0.keep (w' := v5) (fun k hk => q.block k hk)) q.size hl1 hl2 (hx0.keep (fun k hk => q.block k hk)) hx3 hxi).mono ?_
    rintro e v6 hE
    obtain ⟨an, cn, rfl, hN, hb⟩ := InstEnd.to HI.out hE
    clear hE x0 x1 x2
    replace bx := bx.below hb bx.lt
    replace q := q.trans (hb.mono q.size)
    replace hv := hv.below hb
    replace hw := hw.below hb
    replace hM := hM.below hb
    clear hb
    go_wp2_with fail
    refine (sameV_any _ hM hN).mono ?_
    rw [decide_eq_true rfl]
    rintro e v7 ⟨rfl, hb⟩
    clear hM hN
    replace bx := bx.below hb bx.lt
    replace q := q.trans (hb.mono q.size)
    replace hv := hv.below hb
    replace hw := hw.below hb
    clear hb
    go_wp2_with fail
    refine (hC.vacuum _ (hl0.keep (w' := v7) (fun k hk => q.block k hk)) hsm hs).mono ?_
    rintro e v8 ⟨a5, c5, rfl, h5, hb⟩
    replace bx := bx.below hb bx.lt
    replace q := q.trans (hb.mono q.size)
    replace hv := hv.below hb
    replace hw := hw.below hb
    clear hb
    generalize hva : vacV l s = va at *
    have HVA := Lib.hid hva
    clear hva
    go_wp2_with fail
    refine (refVacuum_any _ (hl0.keep (w' := v8) (fun k hk => q.block k hk)) hl3 hl2 s).mono ?_
    rw [HVA.out]
    rintro e v9 ⟨a6, c6, rfl, h6, hb⟩
    replace bx := bx.below hb bx.lt
    replace q := q.trans (hb.mono q.size)
    replace hv := hv.below hb
    replace hw := hw.below hb
    replace h5 := h5.below hb
    clear hb
    have h7 := h6.rdL
    clear h6
    go_wp2_with fail
    refine (sameV_any _ h5 h7).mono ?_
    rw [decide_eq_true rfl]
    rintro e v10 ⟨rfl, hb⟩
    clear h5 h7
    replace bx := bx.below hb bx.lt
    replace q := q.trans (hb.mono q.size)
    replace hv := hv.below hb
    replace hw := hw.below hb
    clear hb
    go_wp2_with fail
    refine (hC.check _ (hl0.keep (w' := v10) (fun k hk => q.block k hk))).mono ?_
    obtain ⟨bk, hbk⟩ : ∃ b, decide (okV l) = b := ⟨_, rfl⟩
    have HK := Lib.hid hbk
    rw [hbk]
    clear hbk
    rintro e v11 ⟨rfl, hb⟩
    replace bx := bx.below hb bx.lt
    replace q := q.trans (hb.mono q.size)
    replace hv := hv.below hb
    replace hw := hw.below hb
    clear hb
    go_wp2_with fail
    refine (refCheckV_any _ (hl0.keep (w' := v11) (fun k hk => q.block k hk))).mono ?_
    rw [HK.out]
    rintro e v12 ⟨rfl, hb⟩
    replace bx := bx.below hb bx.lt
    replace q := q.trans (hb.mono q.size)
    replace hv := hv.below hb
    replace hw := hw.below hb
    clear hb
    have hvr := hv.rd
    have hwr := hw.rd
    clear hv hw
    go_wp2_with (first | (refine wpList_conv byP rfl rfl rfl hvr ?_) | (refine wpList_conv byP rfl rfl rfl hwr ?_))
    refine (hC.newer _ (hl0.keep (w' := v12) (fun k hk => q.block k hk)) hsm hs).mono ?_
    obtain ⟨nb, hnb⟩ : ∃ b, newerV l s = b := ⟨_, rfl⟩
    have HN := Lib.hid hnb
    rw [hnb]
    clear hnb hvr hwr
    rintro e v13 ⟨rfl, hb⟩
    replace bx := bx.below hb bx.lt
    replace q := q.trans (hb.mono q.size)
    clear hb
    go_wp2_with fail
    refine (refNewer_any _ (hl0.keep (w' := v13) (fun k hk => q.block k hk)) s).mono ?_
    rw [HN.out]
    rintro e v14 ⟨rfl, hb⟩
    replace bx := bx.below hb bx.lt
    replace q := q.trans (hb.mono q.size)
    clear hb
    go_wp2_with fail
    go_ret
    exact ⟨rfl, q⟩
  | some vs =>
    refine (hC.read _ (hl0.keep (w' := v2) (fun k hk => q.block k hk)) hsm hs).mono ?_
    rintro e v3 hE
    obtain ⟨av, cv, rfl, hv, hb⟩ := ReadVEnd.some R.out hE
    clear hE
    replace bx := bx.below hb bx.lt
    replace q := q.trans (hb.mono q.size)
    clear hb
    go_wp2_with fail
    refine (refReadV_any _ (hl0.keep (w' := v3) (fun k hk => q.block k hk)) s).mono ?_
    rintro e v4 hE
    obtain ⟨aw, cw, rfl, hw, hb⟩ := ReadVEnd.some R.out hE
    clear hE
    replace bx := bx.below hb bx.lt
    replace q := q.trans (hb.mono q.size)
    replace hv := hv.below hb
    clear hb
    have x0 := bx.cell0
    have x1 := bx.cell1
    have x2 := bx.cell2
    go_wp2_with fail
    refine (hC.install _ (hl0.keep (w' := v4) (fun k hk => q.block k hk)) hsm (hx0.keep (fun k hk => q.block k hk)) hx100 hxi).mono ?_
    rintro e v5 hE
    obtain ⟨am, cm, rfl, hM, hb⟩ := InstNew.to HI.out hE
    clear hE x0 x1 x2
    replace bx := bx.below hb bx.lt
    replace q := q.trans (hb.mono q.size)
    replace hv := hv.below hb
    replace hw := hw.below hb
    clear hb
    have x0 := bx.cell0
    have x1 := bx.cell1
    have x2 := bx.cell2
    go_wp2_with fail
    refine (refInstall_any v5 (hl0.keep (w' := v5) (fun k hk => q.block k hk)) q.size hl1 hl2 (hx0.keep (fun k hk => q.block k hk)) hx3 hxi).mono ?_
    rintro e v6 hE
    obtain ⟨an, cn, rfl, hN, hb⟩ := InstEnd.to HI.out hE
    clear hE x0 x1 x2
    replace bx := bx.below hb bx.lt
    replace q := q.trans (hb.mono q.size)
    replace hv := hv.below hb
    replace hw := hw.below hb
    replace hM := hM.below hb
    clear hb
    go_wp2_with fail
    refine (sameV_any _ hM hN).mono ?_
    rw [decide_eq_true rfl]
    rintro e v7 ⟨rfl, hb⟩
    clear hM hN
    replace bx := bx.below hb bx.lt
    replace q := q.trans (hb.mono q.size)
    replace hv := hv.below hb
    replace hw := hw.below hb
    clear hb
    go_wp2_with fail
    refine (hC.vacuum _ (hl0.keep (w' := v7) (fun k hk => q.block k hk)) hsm hs).mono ?_
    rintro e v8 ⟨a5, c5, rfl, h5, hb⟩
    replace bx := bx.below hb bx.lt
    replace q := q.trans (hb.mono q.size)
    replace hv := hv.below hb
    replace hw := hw.below hb
    clear hb
    generalize hva : vacV l s = va at *
    have HVA := Lib.hid hva
    clear hva
    go_wp2_with fail
    refine (refVacuum_any _ (hl0.keep (w' := v8) (fun k hk => q.block k hk)) hl3 hl2 s).mono ?_
    rw [HVA.out]
    rintro e v9 ⟨a6, c6, rfl, h6, hb⟩
    replace bx := bx.below hb bx.lt
    replace q := q.trans (hb.mono q.size)
    replace hv := hv.below hb
    replace hw := hw.below hb
    replace h5 := h5.below hb
    clear hb
    have h7 := h6.rdL
    clear h6
    go_wp2_with fail
    refine (sameV_any _ h5 h7).mono ?_
    rw [decide_eq_true rfl]
    rintro e v10 ⟨rfl, hb⟩
    clear h5 h7
    replace bx := bx.below hb bx.lt
    replace q := q.trans (hb.mono q.size)
    replace hv := hv.below hb
    replace hw := hw.below hb
    clear hb
    go_wp2_with fail
    refine (hC.check _ (hl0.keep (w' := v10) (fun k hk => q.block k hk))).mono ?_
    obtain ⟨bk, hbk⟩ : ∃ b, decide (okV l) = b := ⟨_, rfl⟩
    have HK := Lib.hid hbk
    rw [hbk]
    clear hbk
    rintro e v11 ⟨rfl, hb⟩
    replace bx := bx.below hb bx.lt
    replace q := q.trans (hb.mono q.size)
    replace hv := hv.below hb
    replace hw := hw.below hb
    clear hb
    go_wp2_with fail
    refine (refCheckV_any _ (hl0.keep (w' := v11) (fun k hk => q.block k hk))).mono ?_
    rw [HK.out]
    rintro e v12 ⟨rfl, hb⟩
    replace bx := bx.below hb bx.lt
    replace q := q.trans (hb.mono q.size)
    replace hv := hv.below hb
    replace hw := hw.below hb
    clear hb
    have hvr := hv.rd
    have hwr := hw.rd
    clear hv hw
    go_wp2_with (first | (refine wpList_conv byP rfl rfl rfl hvr ?_) | (refine wpList_conv byP rfl rfl rfl hwr ?_))
    refine (hC.newer _ (hl0.keep (w' := v12) (fun k hk => q.block k hk)) hsm hs).mono ?_
    obtain ⟨nb, hnb⟩ : ∃ b, newerV l s = b := ⟨_, rfl⟩
    have HN := Lib.hid hnb
    rw [hnb]
    clear hnb hvr hwr
    rintro e v13 ⟨rfl, hb⟩
    replace bx := bx.below hb bx.lt
    replace q := q.trans (hb.mono q.size)
    clear hb
    go_wp2_with fail
    refine (refNewer_any _ (hl0.keep (w' := v13) (fun k hk => q.block k hk)) s).mono ?_
    rw [HN.out]
    rintro e v14 ⟨rfl, hb⟩
    replace bx := bx.below hb bx.lt
    replace q := q.trans (hb.mono q.size)
    clear hb
    go_wp2_with fail
    go_ret
    exact ⟨rfl, q⟩
end Go.Proofs.Ytemdcpajcaaphaa
