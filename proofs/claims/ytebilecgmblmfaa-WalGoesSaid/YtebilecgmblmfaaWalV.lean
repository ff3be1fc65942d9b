/-
  PLAIN MATHEMATICS: the values of the law's awake (wal). No program is named here; no condition beyond each theorem's own.
-/
import Derived.Test.YtebilecgmblmfaaWalM
namespace Go.Proofs.Ytebilecgmblmfaa
theorem len_one (c : UInt8) : (framesB [[c]]).length = 6 := by
  have := frameB_small (t := [c]) (by simp)
  simpa [framesB] using this
theorem longT_one (c : UInt8) : ¬ longT [[c]] := by rintro ⟨t, ht, h⟩; obtain rfl : t = [c] := by simpa using ht
                                                    simp at h
/-- The log behind 'a', and behind 'a' and 'b'. -/
def vA : List UInt8 := framesB [[97]]
def vB : List UInt8 := vA ++ framesB [[98]]
theorem vA_len : vA.length = 6 := len_one 97
theorem vB_len : vB.length = 12 := by unfold vB; rw [List.length_append, vA_len, len_one]
theorem vA_ok : okL vA 0 := ⟨by rw [vA_len]; omega, by omega, by rw [vA_len]; omega⟩
theorem vA_ok6 : okL vA 6 := ⟨by rw [vA_len]; omega, by omega, by rw [vA_len]; omega⟩
theorem vB_ok : okL vB 6 := ⟨by rw [vB_len]; omega, by omega, by rw [vB_len]; omega⟩
theorem vB_eq : vB = framesB [[97], [98]] := by unfold vB vA; rw [← framesB_append]; rfl
theorem v_app1 : appS [] 0 [[97]] = (vA, 0) := by
  rw [appS_ok ⟨by simp, by omega, by simp⟩ (longT_one 97) (by rw [List.nil_append, len_one]; omega)]; rfl
theorem v_sync : syncN vA 0 = 6 := by unfold syncN; rw [if_pos vA_ok, vA_len]; rfl
theorem v_app2 : appS vA 6 [[98]] = (vB, 0) := by
  rw [appS_ok vA_ok6 (longT_one 98) (by rw [List.length_append, vA_len, len_one]; omega)]; rfl
theorem v_crash0 : crashB vB 6 0 = vA ∧ crashN vB 6 0 = 6 := by
  have hk : keepN vB 6 0 = 6 := by unfold keepN; rfl
  unfold crashB crashN
  rw [if_pos vB_ok, if_pos vB_ok, hk]
  exact ⟨by rw [show (6 : Nat) = vA.length from vA_len.symm]; unfold vB; rw [List.take_left], rfl⟩
theorem v_crash11 : crashB vB 6 11 = vB.take 11 ∧ crashN vB 6 11 = 11 := by
  have hk : keepN vB 6 11 = 11 := by unfold keepN; rw [vB_len]; rfl
  unfold crashB crashN
  rw [if_pos vB_ok, if_pos vB_ok, hk]
  exact ⟨rfl, rfl⟩
theorem v_cut_ok : okL (vB.take 11) 11 := by
  have h : (vB.take 11).length = 11 := by rw [List.length_take, vB_len]; rfl
  exact ⟨by rw [h]; omega, by omega, by rw [h]; omega⟩
theorem v_cut : textsF (vB.take 11) = [[97]] := by
  rw [vB_eq]
  have := textsF_cut [[97], [98]] 11 1 (fun t ht => by
    rcases List.mem_cons.1 ht with rfl | ht
    · simp
    · obtain rfl : t = [98] := by simpa using ht
      simp) (by rw [show (([[97], [98]] : List (List UInt8)).take 1) = [[97]] from rfl, len_one]; omega) (.inr (by have := vB_len; rw [vB_eq] at this; simp only [List.take_succ_cons, List.take_zero]; omega))
  simpa using this
theorem v_trim : trimB (vB.take 11) 11 = vA ∧ trimN (vB.take 11) 11 = 6 := by
  have e := trimB_eq v_cut_ok
  rw [e.1, e.2, v_cut]
  exact ⟨rfl, by rw [len_one]; rfl⟩
theorem v_arg (ts : List (List UInt8)) : appS [] 1 ts = ([], 1) := appS_arg (by rintro ⟨_, _, h⟩; simp at h)
theorem v_full {zs : List UInt8} (h : zs.length = 19999) : appS zs 0 [[97]] = (zs, 40) :=
  appS_full ⟨by omega, by omega, by omega⟩ (longT_one 97) (by rw [List.length_append, len_one]; omega)
theorem v_texts : textsS vB 6 = [[97], [98]] ∧ textsS vA 6 = [[97]] := by
  have h1 : textsF vA = [[97]] := by
    have := textsF_frames [[97]] [] (fun t ht => by obtain rfl : t = [97] := by simpa using ht
                                                    simp)
    rw [List.append_nil, textsF_none readF_nil, List.append_nil] at this
    exact this
  unfold textsS
  rw [if_pos vB_ok, if_pos vA_ok6]
  refine ⟨?_, h1⟩
  have := textsF_two [[97]] [[98]] (fun t ht => by obtain rfl : t = [97] := by simpa using ht
                                                   simp) (fun t ht => by obtain rfl : t = [98] := by simpa using ht
                                                                         simp)
  exact this
theorem v_neg : ¬ okL [] (-1) := by rintro ⟨_, h, _⟩; omega
end Go.Proofs.Ytebilecgmblmfaa
