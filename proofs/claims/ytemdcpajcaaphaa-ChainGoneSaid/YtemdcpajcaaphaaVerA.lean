/-
  THE WALK OF awake (the laws of chain): true; by chain's contracts.
-/
import Derived.WalkKit
import Derived.WalkSpells
import Derived.WalkLawsBesides
import Derived.Lib.Hide
import Derived.Deep.Cut
import Derived.Test.YtemdcpajcaaphaaProg
import Derived.Test.YtemdcpajcaaphaaByte
import Derived.Test.YtemdcpajcaaphaaAux
import Derived.Test.YtemdcpajcaaphaaElt
import Derived.Test.YtemdcpajcaaphaaEll
import Derived.Test.YtemdcpajcaaphaaVer
import Derived.Test.YtemdcpajcaaphaaVerM
import Derived.Test.YtemdcpajcaaphaaVerD
import Derived.Test.YtemdcpajcaaphaaVerN
import Derived.Test.YtemdcpajcaaphaaVerX
import Derived.Test.YtemdcpajcaaphaaChainInstallsW
namespace Go.Proofs.Ytemdcpajcaaphaa
open Go.RowKit
def vsL : List Ver := [⟨2, false, [97]⟩, ⟨4, false, [98]⟩]
def vsM : List Ver := [⟨2, false, [97]⟩, ⟨4, false, [98]⟩, ⟨5, true, []⟩]
theorem vs_r3 : readV vsL 3 = some [97] := by decide
theorem vs_r1 : readV vsL 1 = none := by decide
theorem vs_i5 : instV vsL ⟨5, true, []⟩ = (vsM, 0) := by decide
theorem vs_i4 : instV vsL ⟨4, false, []⟩ = (vsL, 50) := by decide
theorem vs_i0 : instV vsL ⟨0, false, []⟩ = (vsL, 1) := by decide
theorem vs_r6 : readV vsM 6 = none := by decide
theorem vs_n3 : newerV vsL 3 = true := by decide
theorem vs_n4 : newerV vsL 4 = false := by decide
theorem vs_v4 : (vacV vsM 4).length = 2 := by decide
theorem vs_v5 : (vacV vsM 5).length = 0 := by decide
theorem vs_ok : okV vsM := by decide
theorem vs_sL : smallV vsL := ⟨by decide, by decide⟩
theorem vs_sM : smallV vsM := ⟨by decide, by decide⟩
theorem vs_two (w1 : World) {v1 v2 : Value} (h1 : Rd w1.heap.size w1 v1 [97]) (h2 : Rd w1.heap.size w1 v2 [98]) :
    RdL Elt.ver (· < (w1.alloc (.cells #[.int .i64 2, .bool false, v1, .int .i64 4, .bool false, v2] 25)).heap.size) (w1.alloc (.cells #[.int .i64 2, .bool false, v1, .int .i64 4, .bool false, v2] 25)) (.slice (some ⟨w1.heap.size, 0, none⟩) 2 2) vsL := by
  have hb := (Below.refl w1.heap.size w1).alloc (Nat.le_refl _) (.cells #[.int .i64 2, .bool false, v1, .int .i64 4, .bool false, v2] 25)
  have hc := cells_new w1 [.int .i64 2, .bool false, v1, .int .i64 4, .bool false, v2] 25
  have g1 := ((h1.below hb).mono hb.size).s
  have g2 := ((h2.below hb).mono hb.size).s
  simp only [Addr.add_lit] at hc
  have c0 := hc 0 _ rfl
  have c1 := hc 1 _ rfl
  have c2 := hc 2 _ rfl
  have c3 := hc 3 _ rfl
  have c4 := hc 4 _ rfl
  have c5 := hc 5 _ rfl
  clear hc hb
  generalize w1.alloc (.cells #[.int .i64 2, .bool false, v1, .int .i64 4, .bool false, v2] 25) = w2 at *
  refine ⟨_, 2, rfl, Nat.le_refl _, by unfold maxLen; omega, .inr ⟨w1.heap.size, 0, rfl, cell_lt c0, fun r hr => ?_⟩⟩
  rcases r with _ | _ | r
  · refine ⟨[.int .i64 2, .bool false, v1], ⟨v1, rfl, g1, show I64' 2 from ⟨by decide, by decide⟩⟩, fun j u hu => ?_⟩
    rcases j with _ | _ | _ | j
    · cases hu; exact c0
    · cases hu; exact c1
    · cases hu; exact c2
    · simp at hu
  · refine ⟨[.int .i64 4, .bool false, v2], ⟨v2, rfl, g2, show I64' 4 from ⟨by decide, by decide⟩⟩, fun j u hu => ?_⟩
    rcases j with _ | _ | _ | j
    · cases hu; exact c3
    · cases hu; exact c4
    · cases hu; exact c5
    · simp at hu
  · exact absurd (show r + 1 + 1 < 2 from hr) (by omega)
set_option maxRecDepth 100000 in
set_option maxHeartbeats 2000000 in
theorem awake5_any (hC : ChnC0) (w : World) : Calls Try.prog 10 #[] w fun e w' => e = .returned (.bool true) ∧ Below w.heap.size w w' := by
  go_enter Try.func10, Try.ntmps10
  dsimp only [List.append]
  have q := Below.refl w.heap.size w
  go_wp2_with (first | (refine wpList_const byP rfl (fun _ => rfl) rfl rfl (by simp) rfl [97] ?hv rfl (by simp) ?_; (case hv => simp [bv, Act.eval]); intro u1 g1 k1 w1 hb1 hr1) | (refine wpList_const byP rfl (fun _ => rfl) rfl rfl (by simp) rfl [98] ?hv rfl (by simp) ?_; (case hv => simp [bv, Act.eval]); intro u2 g2 k2 w2 hb2 hr2))
  have hL := vs_two w2 ((hr1.below hb2).mono hb2.size) hr2
  replace q := q.trans (hb1.mono q.size)
  replace q := q.trans (hb2.mono q.size)
  replace q := q.alloc q.size (.cells #[.int .i64 2, .bool false, .slice (some ⟨g1, 0, none⟩) k1 k1, .int .i64 4, .bool false, .slice (some ⟨g2, 0, none⟩) k2 k2] 25)
  clear hr1 hr2 hb1 hb2
  generalize w2.alloc (.cells #[.int .i64 2, .bool false, .slice (some ⟨g1, 0, none⟩) k1 k1, .int .i64 4, .bool false, .slice (some ⟨g2, 0, none⟩) k2 k2] 25) = v0 at *
  generalize w2.heap.size = b0 at *
  refine (hC.read _ (s := 3) hL vs_sL ⟨by decide, by decide⟩).mono ?_
  rintro e v1 hE
  obtain ⟨av, cv, rfl, hv, hb⟩ := ReadVEnd.some vs_r3 hE
  clear hE
  replace q := q.trans (hb.mono q.size)
  replace hL := hL.below hb
  clear hb
  go_wp2_with fail
  refine (hC.read _ (s := 1) hL vs_sL ⟨by decide, by decide⟩).mono ?_
  rintro e v2 hE
  obtain ⟨ax, cx, rfl, hx, hb⟩ := ReadVEnd.none vs_r1 hE
  clear hE
  replace q := q.trans (hb.mono q.size)
  replace hL := hL.below hb
  replace hv := hv.below hb
  clear hb
  go_wp2_with fail
  refine (hC.install _ (x := ⟨5, true, []⟩) hL vs_sL (RdS.nil _ _) (by simp) ⟨by decide, by decide⟩).mono ?_
  rintro e v3 hE
  obtain ⟨aM, cM, rfl, hM, hb⟩ := InstNew.to vs_i5 hE
  clear hE
  replace q := q.trans (hb.mono q.size)
  replace hL := hL.below hb
  replace hv := hv.below hb
  clear hb
  go_wp2_with fail
  refine (hC.install _ (x := ⟨4, false, []⟩) hL vs_sL (RdS.nil _ _) (by simp) ⟨by decide, by decide⟩).mono ?_
  rintro e v4 hE
  obtain ⟨aA, cA, rfl, hA, hb⟩ := InstNew.to vs_i4 hE
  clear hE
  replace q := q.trans (hb.mono q.size)
  replace hL := hL.below hb
  replace hv := hv.below hb
  replace hM := hM.below hb
  clear hb
  go_wp2_with fail
  refine (hC.install _ (x := ⟨0, false, []⟩) hL vs_sL (RdS.nil _ _) (by simp) ⟨by decide, by decide⟩).mono ?_
  rintro e v5 hE
  obtain ⟨aB, cB, rfl, hB, hb⟩ := InstNew.to vs_i0 hE
  clear hE
  replace q := q.trans (hb.mono q.size)
  replace hL := hL.below hb
  replace hv := hv.below hb
  replace hM := hM.below hb
  clear hb
  go_wp2_with fail
  refine (hC.read _ (s := 6) hM vs_sM ⟨by decide, by decide⟩).mono ?_
  rintro e v6 hE
  obtain ⟨ay, cy, rfl, hy, hb⟩ := ReadVEnd.none vs_r6 hE
  clear hE
  replace q := q.trans (hb.mono q.size)
  replace hL := hL.below hb
  replace hv := hv.below hb
  replace hM := hM.below hb
  clear hb
  have hvr := hv.rd
  have hstr : (strOf [97]).toList = [97] := strOf_toList _
  go_wp2_with (refine wpList_conv byP rfl rfl rfl hvr ?_)
  clear hvr hv hstr
  refine (hC.newer _ (s := 3) hL vs_sL ⟨by decide, by decide⟩).mono ?_
  rw [vs_n3]
  rintro e v7 ⟨rfl, hb⟩
  replace q := q.trans (hb.mono q.size)
  replace hL := hL.below hb
  replace hM := hM.below hb
  clear hb
  go_wp2_with fail
  refine (hC.newer _ (s := 4) hL vs_sL ⟨by decide, by decide⟩).mono ?_
  rw [vs_n4]
  rintro e v8 ⟨rfl, hb⟩
  replace q := q.trans (hb.mono q.size)
  replace hL := hL.below hb
  replace hM := hM.below hb
  clear hb
  go_wp2_with fail
  refine (hC.vacuum _ (s := 4) hM vs_sM ⟨by decide, by decide⟩).mono ?_
  rintro e v9 ⟨aqv9, cqv9, rfl, hqv9, hb⟩
  rw [vs_v4]
  replace q := q.trans (hb.mono q.size)
  replace hM := hM.below hb
  clear hb hqv9
  go_wp2_with fail
  refine (hC.vacuum _ (s := 5) hM vs_sM ⟨by decide, by decide⟩).mono ?_
  rintro e v10 ⟨aqv10, cqv10, rfl, hqv10, hb⟩
  rw [vs_v5]
  replace q := q.trans (hb.mono q.size)
  replace hM := hM.below hb
  clear hb hqv10
  go_wp2_with fail
  refine (hC.check _ hM).mono ?_
  rw [decide_eq_true vs_ok]
  rintro e v11 ⟨rfl, hb⟩
  replace q := q.trans (hb.mono q.size)
  clear hb
  go_wp2_with fail
  go_ret
  exact ⟨rfl, q⟩
theorem ChnC0.full (h : ChnC0) : ChnC := ⟨h, fun w => awake5_any h w⟩
end Go.Proofs.Ytemdcpajcaaphaa
