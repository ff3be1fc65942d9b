/-
  THE WALK OF wal's frames: the frames of texts, one behind the other, or an error. At most a hundred texts; room for at most twenty thousand bytes.
-/
import Derived.RangeFuncBox
import Derived.Shelf.Abstract
import Derived.WalkKit
import Derived.WalkSpells
import Derived.WalkLawsBesides
import Derived.Lib.Hide
import Derived.Deep.Cut
import Derived.Test.YtebilecgmblmfaaProg
import Derived.Test.YtebilecgmblmfaaByte
import Derived.Test.YtebilecgmblmfaaAux
import Derived.Test.YtebilecgmblmfaaMat
import Derived.Test.YtebilecgmblmfaaFrmC
import Derived.Test.YtebilecgmblmfaaWalM
namespace Go.Proofs.Ytebilecgmblmfaa
open Go.RowKit Go.Shelf
/-- What frames tells: the bytes, and the error. -/
def frmR (tss : List (List UInt8)) (room : Nat) : List UInt8 × Nat :=
  if longT tss then ([], 30) else if room < (framesB tss).length then ([], 40) else (framesB tss, 0)
def FrmEnd (w : World) (tss : List (List UInt8)) (room : Nat) (e : Ending) (w' : World) : Prop :=
  ∃ ad k c, e = .returned (.tuple #[.slice ad k c, .int .i64 ((frmR tss room).2 : Nat)]) ∧ Own 5 w.heap.size w' (.slice ad k c) (frmR tss room).1 ∧ Below w.heap.size w w'
/-- What the loop knows behind k texts. -/
def FullI (tss : List (List UInt8)) (room k : Nat) (fl : Bool) (ys : List UInt8) : Prop :=
  ys.length ≤ room ∧ ((fl = true ∧ room < (framesB (tss.take k)).length) ∨ (fl = false ∧ ys = framesB (tss.take k)))
theorem FullI.snoc {tss : List (List UInt8)} {k : Nat} (hk : k < tss.length) : framesB (tss.take (k + 1)) = framesB (tss.take k) ++ frameB tss[k] := by
  rw [List.take_succ_eq_append_getElem hk, framesB_append]; simp [framesB]
theorem FullI.stay {tss : List (List UInt8)} {room k : Nat} {ys : List UInt8} (h : FullI tss room k true ys) (hk : k < tss.length) : FullI tss room (k + 1) true ys := by
  obtain ⟨h1, ⟨_, h2⟩ | ⟨h, _⟩⟩ := h
  · exact ⟨h1, .inl ⟨rfl, by rw [FullI.snoc hk, List.length_append]; omega⟩⟩
  · cases h
theorem FullI.over {tss : List (List UInt8)} {room k : Nat} {ys : List UInt8} (h : FullI tss room k false ys) (hk : k < tss.length) (ho : room < ys.length + (frameB tss[k]).length) : FullI tss room (k + 1) true ys := by
  obtain ⟨h1, ⟨h, _⟩ | ⟨_, rfl⟩⟩ := h
  · cases h
  · exact ⟨h1, .inl ⟨rfl, by rw [FullI.snoc hk, List.length_append]; omega⟩⟩
theorem FullI.more {tss : List (List UInt8)} {room k : Nat} {ys : List UInt8} (h : FullI tss room k false ys) (hk : k < tss.length) (ho : ys.length + (frameB tss[k]).length ≤ room) : FullI tss room (k + 1) false (ys ++ frameB tss[k]) := by
  obtain ⟨h1, ⟨h, _⟩ | ⟨_, rfl⟩⟩ := h
  · cases h
  · exact ⟨by rw [List.length_append]; omega, .inr ⟨rfl, by rw [FullI.snoc hk]⟩⟩
theorem frmR_long {tss : List (List UInt8)} {room : Nat} (h : longT tss) : frmR tss room = ([], 30) := by simp [frmR, h]
theorem FullI.full {tss : List (List UInt8)} {room : Nat} {ys : List UInt8} (h : FullI tss room tss.length true ys) (hl : ¬ longT tss) : frmR tss room = ([], 40) := by
  obtain ⟨h1, ⟨_, h2⟩ | ⟨h, _⟩⟩ := h
  · rw [List.take_length] at h2; simp [frmR, hl, h2]
  · cases h
theorem FullI.fits {tss : List (List UInt8)} {room : Nat} {ys : List UInt8} (h : FullI tss room tss.length false ys) (hl : ¬ longT tss) : frmR tss room = (ys, 0) := by
  obtain ⟨h1, ⟨h, _⟩ | ⟨_, h2⟩⟩ := h
  · cases h
  · rw [List.take_length] at h2
    subst h2
    simp only [frmR, if_neg hl, if_neg (Nat.not_lt.2 h1)]

set_option maxRecDepth 100000 in
set_option maxHeartbeats 2000000 in
theorem logFrames_any {w0 : World} {a2 : Option Addr} {n2 c2 : Nat} {tss : List (List UInt8)} (ht : RdRows w0 (.slice a2 n2 c2) tss) (w : World) (hb0 : Below w0.heap.size w0 w) (hn2 : tss.length ≤ 100) (room : Nat) (hrm : room ≤ 20000) :
    Calls Try.prog 28 #[.slice a2 n2 c2, .int .i64 room] w (FrmEnd w tss room) := by
  obtain ⟨rfl, hnc2, hcm2⟩ := ht.len
  go_enter Try.func28, Try.ntmps28
  go_wp2_with fail
  go_loopw [6, 7, 14] (fun bv fv iv wr => ∃ (k : Nat) (fl : Bool) (ad : Option Addr) (k3 c3 : Nat) (ys : List UInt8), bv = .slice ad k3 c3 ∧ fv = .bool fl ∧ iv = .int .i64 k ∧ k ≤ tss.length ∧ (∀ r (hr : r < tss.length), r < k → tss[r].length ≤ 2000) ∧ FullI tss room k fl ys ∧
      Own 5 w.heap.size wr (.slice ad k3 c3) ys ∧ Below w.heap.size w wr)
    (fun _ _ i _ => tss.length - (intOf i).toNat)
  case atStart => exact ⟨0, false, none, 0, 0, [], rfl, rfl, rfl, Nat.zero_le _, fun r _ h => by omega, ⟨Nat.zero_le _, .inr ⟨rfl, by simp [framesB]⟩⟩, Own.nil _ _ _, Below.refl _ _⟩
  case round =>
    obtain ⟨k, fl, ad, k3, c3, ys, rfl, rfl, rfl, hkl, hle, hI, hO, q⟩ := hrel
    obtain rfl := hO.len
    rcases Nat.lt_or_ge k tss.length with hlt | hge
    · obtain ⟨b, off, A, L, C, rfl, hbl', hcell, hrd⟩ := ht.at (hb0.trans (q.mono hb0.size)) k hlt
      obtain rfl : L = tss[k].length := hrd.len.1
      by_cases hbig : 2000 < tss[k].length
      · have HA := Lib.hid (frmR_long (room := room) (⟨_, List.getElem_mem hlt, hbig⟩ : longT tss))
        go_wp2_with fail
        refine (write_no _ hrd (Nat.le_trans hb0.size q.size) hbig).mono ?_
        rintro e w4 ⟨rfl, hb4⟩
        go_wp2_with fail
        go_ret2
        exact ⟨none, 0, 0, by rw [HA.out]; rfl, by rw [HA.out]; exact Own.nil _ _ _, q.trans (hb4.mono q.size)⟩
      · have h2000 : tss[k].length ≤ 2000 := by omega
        have hfk := frameB_le h2000
        have hle' : ∀ r (hr : r < tss.length), r < k + 1 → tss[r].length ≤ 2000 := fun r hr h => by
          rcases Nat.lt_or_ge r k with h4 | h4
          · exact hle r hr h4
          · obtain rfl : r = k := by omega
            exact h2000
        have HL := Lib.hid hle'
        have hst := fun h => FullI.stay (ys := ys) (room := room) h hlt
        have hov := fun h => FullI.over (ys := ys) (room := room) h hlt
        have hmo := fun h => FullI.more (ys := ys) (room := room) h hlt
        have hw := write_yes wr hrd (Nat.le_trans hb0.size q.size) h2000
        have hyr := hI.1
        obtain ⟨ft, hft⟩ : ∃ ft, ft = frameB tss[k] := ⟨_, rfl⟩
        rw [← hft] at hw hfk hov hmo
        have HL2 := Lib.hid hkl
        clear hle hle' hbig hrd hft
        cases fl
        · by_cases ho : room < ys.length + ft.length
          · have d1 : decide ((room : Int) - ys.length < ft.length) = true := by rw [decide_eq_true_iff]; omega
            have hI2 := hov hI ho
            clear hst hov hmo hI
            go_wp2_with fail
            refine hw.mono ?_
            rintro e w4 ⟨ax, kx, cx, rfl, hF⟩
            obtain rfl := hF.len
            replace hO := hO.below hF.1
            replace q := q.trans (hF.1.mono q.size)
            go_wp2_with fail
            go_roundw
            case rel => exact ⟨k + 1, true, _, _, _, ys, rfl, rfl, by go_num, by omega, HL.out, hI2, hO, q⟩
            case measure => simp [intOf]; omega
          · have d1 : decide ((room : Int) - ys.length < ft.length) = false := by rw [decide_eq_false_iff_not]; omega
            have hI2 := hmo hI (by omega)
            clear hst hov hmo hI
            go_wp2_with fail
            refine hw.mono ?_
            rintro e w4 ⟨ax, kx, cx, rfl, hF⟩
            obtain rfl := hF.len
            replace hO := hO.below hF.1
            replace q := q.trans (hF.1.mono q.size)
            go_wp2_with (at_builtin; refine wpList_append byP rfl rfl rfl hO rfl hF.rd q.size ?_ ?hlen2; intro a6 k6 c6 w6 hO6 hg6 hb6; have q6 := q.trans hb6)
            case hlen2 => omega
            go_roundw
            case rel => exact ⟨k + 1, false, _, _, _, _, rfl, rfl, by go_num, by omega, HL.out, hI2, hO6, q6⟩
            case measure => simp [intOf]; omega
        · have hI2 := hst hI
          clear hst hov hmo hI
          go_wp2_with fail
          refine hw.mono ?_
          rintro e w4 ⟨ax, kx, cx, rfl, hF⟩
          obtain rfl := hF.len
          replace hO := hO.below hF.1
          replace q := q.trans (hF.1.mono q.size)
          go_wp2_with fail
          go_roundw
          case rel => exact ⟨k + 1, true, _, _, _, ys, rfl, rfl, by go_num, by omega, HL.out, hI2, hO, q⟩
          case measure => simp [intOf]; omega
    · obtain rfl : k = tss.length := by omega
      have hnl : ¬ longT tss := fun ⟨t, ht1, ht2⟩ => by
        obtain ⟨r, hr1, rfl⟩ := List.mem_iff_getElem.1 ht1
        have := hle r hr1 hr1
        omega
      cases fl
      · have HA := Lib.hid (hI.fits hnl)
        clear hle hnl hI
        go_wp2_with fail
        go_ret2
        exact ⟨_, _, _, by rw [HA.out]; rfl, by rw [HA.out]; exact hO, q⟩
      · have HA := Lib.hid (hI.full hnl)
        clear hle hnl hI
        go_wp2_with fail
        go_ret2
        exact ⟨none, 0, 0, by rw [HA.out]; rfl, by rw [HA.out]; exact Own.nil _ _ _, q⟩
end Go.Proofs.Ytebilecgmblmfaa
