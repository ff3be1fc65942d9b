/-
  THE WALK OF WalTrims: whatever the log and the number: true, and nothing that lay has turned; wal's functions by their contracts.
-/
import Derived.WalkKit
import Derived.WalkSpells
import Derived.WalkLawsBesides
import Derived.Lib.Hide
import Derived.Deep.Cut
import Derived.Deep.QuietTactic
import Derived.BigQuiet
import Derived.Test.YtebilecgmblmfaaProg
import Derived.Test.YtebilecgmblmfaaByte
import Derived.Test.YtebilecgmblmfaaAux
import Derived.Test.YtebilecgmblmfaaRyo
import Derived.Test.YtebilecgmblmfaaKept
import Derived.Test.YtebilecgmblmfaaWalM
import Derived.Test.YtebilecgmblmfaaWalR
import Derived.Test.YtebilecgmblmfaaWalS
import Derived.Test.YtebilecgmblmfaaWalC
namespace Go.Proofs.Ytebilecgmblmfaa
open Go.RowKit
theorem i64_wf {n : Int} (h : (Lit.int .i64 n).wf = true) : I64 n := by
  simp [Lit.wf, IntKind.min, IntKind.max, IntKind.signed, IntKind.bits] at h; exact ⟨by omega, by omega⟩
set_option maxRecDepth 100000 in
set_option maxHeartbeats 2000000 in
theorem WalTrims_w (hC : WalC) (w : World) {a0 : Option Addr} {n0 c0 : Nat} {bs : List UInt8} (hr : Rd w.heap.size w (.slice a0 n0 c0) bs) {s : Int} (hs : (Lit.int .i64 s).wf = true) {keep : Int} (hkeep : (Lit.int .i64 keep).wf = true) :
    Calls Try.prog 7 #[.agg #[.slice a0 n0 c0, .int .i64 s], .int .i64 keep] w fun e w' => e = .returned (.bool true) ∧ Below w.heap.size w w' := by
  obtain ⟨rfl, hnc, hcm⟩ := hr.len
  have hlm : bs.length ≤ 9223372036854775807 := by unfold maxLen at hcm; omega
  replace hs := i64_wf hs
  replace hkeep := i64_wf hkeep
  have pl := PairV.new w 24 (.slice a0 bs.length c0) (.int .i64 s)
  have q : Below w.heap.size w (w.alloc (.cells #[.slice a0 bs.length c0, .int .i64 s] 24)) := (Below.refl _ _).alloc (Nat.le_refl _) _
  go_enter Try.func7, Try.ntmps7
  go_wp2_with fail
  generalize w.alloc (.cells #[.slice a0 bs.length c0, .int .i64 s] 24) = W0 at *
  refine (hC.awake W0).mono ?_
  rintro e v1 ⟨rfl, hb⟩
  replace pl := pl.below hb pl.lt
  replace q := q.trans (hb.mono q.size)
  have plc0 := pl.cell0
  have plc1 := pl.cell1
  by_cases hlen : 2000 < bs.length
  · have d : decide ((2000 : Int) < bs.length) = true := by simp; omega
    go_wp2_with fail
    go_ret
    exact ⟨rfl, q⟩
  have d : decide ((2000 : Int) < bs.length) = false := by simp; omega
  have hx : bs.length ≤ 1000000 := by omega
  clear hlen
  go_wp2_with fail
  refine (hC.check _ (hr.below q) q.size hx hs).mono ?_
  rintro e v2 ⟨rfl, hb⟩
  clear plc0 plc1
  replace pl := pl.below hb pl.lt
  replace q := q.trans (hb.mono q.size)
  have plc0 := pl.cell0
  have plc1 := pl.cell1
  rcases (Decidable.em (okL bs s)).symm with hk | hk
  · have hd : decide (okL bs s) = false := decide_eq_false hk
    rw [hd]
    go_wp2_with fail
    go_ret
    exact ⟨rfl, q⟩
  have hd : decide (okL bs s) = true := decide_eq_true hk
  rw [hd]
  have HK := Lib.hid hk
  have htl := trim_len hk
  clear hk hd d
  go_wp2_with fail
  refine (hC.trim _ (hr.below q) q.size hx hs).mono ?_
  rintro e v3 ⟨at', kt, ct, rfl, rt, hb⟩
  clear plc0 plc1
  replace pl := pl.below hb pl.lt
  replace q := q.trans (hb.mono q.size)
  go_upto_region 5 with (fail)
  have pt := PairV.new v3 24 (.slice at' kt ct) (.int .i64 (trimN bs s))
  have hbx : Below v3.heap.size v3 (v3.alloc (.cells #[.slice at' kt ct, .int .i64 (trimN bs s)] 24)) := (Below.refl _ _).alloc (Nat.le_refl _) _
  replace pl := pl.alloc (.cells #[.slice at' kt ct, .int .i64 (trimN bs s)] 24)
  replace rt := (rt.below hbx).mono hbx.size
  replace q := q.trans (hbx.mono q.size)
  clear hbx
  generalize v3.alloc (.cells #[.slice at' kt ct, .int .i64 (trimN bs s)] 24) = W1 at *
  have ptc0 := pt.cell0
  have ptc1 := pt.cell1
  go_wp2_with fail
  refine (hC.trim W1 rt (Nat.le_refl _) (by omega) (trim_ok HK.out).i64).mono ?_
  rw [(trim_trim HK.out).1, (trim_trim HK.out).2]
  rintro e v4 ⟨au, ku, cu, rfl, ru, hb⟩
  clear ptc0 ptc1
  replace pl := pl.below hb pl.lt
  replace pt := pt.below hb pt.lt
  replace rt := (rt.below hb).mono hb.size
  replace q := q.trans (hb.mono q.size)
  go_upto_region 6 with (fail)
  have pu := PairV.new v4 24 (.slice au ku cu) (.int .i64 (trimN bs s))
  have hbx : Below v4.heap.size v4 (v4.alloc (.cells #[.slice au ku cu, .int .i64 (trimN bs s)] 24)) := (Below.refl _ _).alloc (Nat.le_refl _) _
  replace pl := pl.alloc (.cells #[.slice au ku cu, .int .i64 (trimN bs s)] 24)
  replace pt := pt.alloc (.cells #[.slice au ku cu, .int .i64 (trimN bs s)] 24)
  replace rt := (rt.below hbx).mono hbx.size
  replace ru := (ru.below hbx).mono hbx.size
  replace q := q.trans (hbx.mono q.size)
  clear hbx
  generalize v4.alloc (.cells #[.slice au ku cu, .int .i64 (trimN bs s)] 24) = W2 at *
  have plc0 := pl.cell0
  have plc1 := pl.cell1
  go_wp2_with fail
  refine (hC.sync W2 (hr.below q) q.size hx hs).mono ?_
  rw [(sync_ok HK.out).1]
  rintro e v5 ⟨ay, ky, cy, rfl, ry, hb⟩
  clear plc0 plc1
  replace pl := pl.below hb pl.lt
  replace pt := pt.below hb pt.lt
  replace pu := pu.below hb pu.lt
  replace rt := (rt.below hb).mono hb.size
  replace ru := (ru.below hb).mono hb.size
  replace q := q.trans (hb.mono q.size)
  go_wp2_with fail
  refine (hC.crash _ ry (Nat.le_refl _) hx (sync_ok HK.out).2.i64 hkeep).mono ?_
  rw [(crash_all keep (sync_ok HK.out).2).1, (crash_all keep (sync_ok HK.out).2).2]
  rintro e v6 ⟨az, kz, cz, rfl, rz, hb⟩
  replace pl := pl.below hb pl.lt
  replace pt := pt.below hb pt.lt
  replace pu := pu.below hb pu.lt
  replace rt := (rt.below hb).mono hb.size
  replace ru := (ru.below hb).mono hb.size
  replace ry := (ry.below hb).mono hb.size
  replace q := q.trans (hb.mono q.size)
  go_upto_region 7 with (fail)
  have pz := PairV.new v6 24 (.slice az kz cz) (.int .i64 (bs.length : Nat))
  have hbx : Below v6.heap.size v6 (v6.alloc (.cells #[.slice az kz cz, .int .i64 (bs.length : Nat)] 24)) := (Below.refl _ _).alloc (Nat.le_refl _) _
  replace pl := pl.alloc (.cells #[.slice az kz cz, .int .i64 (bs.length : Nat)] 24)
  replace pt := pt.alloc (.cells #[.slice az kz cz, .int .i64 (bs.length : Nat)] 24)
  replace pu := pu.alloc (.cells #[.slice az kz cz, .int .i64 (bs.length : Nat)] 24)
  replace rt := (rt.below hbx).mono hbx.size
  replace ru := (ru.below hbx).mono hbx.size
  replace ry := (ry.below hbx).mono hbx.size
  replace rz := (rz.below hbx).mono hbx.size
  replace q := q.trans (hbx.mono q.size)
  clear hbx
  generalize v6.alloc (.cells #[.slice az kz cz, .int .i64 (bs.length : Nat)] 24) = W3 at *
  have hkt : kt ≤ bs.length := by have := rt.len.1; omega
  have plc0 := pl.cell0
  have plc1 := pl.cell1
  go_wp2_with fail
  refine (hC.texts W3 (hr.below q) q.size hx hs).mono ?_
  rintro e v7 ⟨aa, ka, ca, rfl, hOa, hb⟩
  clear plc0 plc1
  replace pl := pl.below hb pl.lt
  replace pt := pt.below hb pt.lt
  replace pu := pu.below hb pu.lt
  replace pz := pz.below hb pz.lt
  replace rt := (rt.below hb).mono hb.size
  replace ru := (ru.below hb).mono hb.size
  replace ry := (ry.below hb).mono hb.size
  replace rz := (rz.below hb).mono hb.size
  replace q := q.trans (hb.mono q.size)
  rw [(trim_texts HK.out).2] at hOa
  obtain rfl := hOa.len
  have ra := hOa.rows
  have qa := Below.refl v7.heap.size v7
  clear hOa hb
  have ptc0 := pt.cell0
  have ptc1 := pt.cell1
  go_wp2_with fail
  refine (hC.texts _ rt (Nat.le_refl _) (by omega) (trim_ok HK.out).i64).mono ?_
  rintro e v8 ⟨ab, kb, cb, rfl, hOb, hb⟩
  clear ptc0 ptc1
  replace pl := pl.below hb pl.lt
  replace pt := pt.below hb pt.lt
  replace pu := pu.below hb pu.lt
  replace pz := pz.below hb pz.lt
  replace rt := (rt.below hb).mono hb.size
  replace ru := (ru.below hb).mono hb.size
  replace ry := (ry.below hb).mono hb.size
  replace rz := (rz.below hb).mono hb.size
  replace qa := qa.trans (hb.mono qa.size)
  replace q := q.trans (hb.mono q.size)
  rw [(trim_texts HK.out).1] at hOb
  obtain rfl := hOb.len
  have rb := hOb.rows
  have qb := Below.refl v8.heap.size v8
  clear hOb hb
  have pzc0 := pz.cell0
  have pzc1 := pz.cell1
  go_wp2_with fail
  refine (hC.texts _ rz (Nat.le_refl _) hx (sync_ok HK.out).2.i64).mono ?_
  rintro e v9 ⟨ac, kc, cc, rfl, hOc, hb⟩
  clear pzc0 pzc1
  replace pl := pl.below hb pl.lt
  replace pt := pt.below hb pt.lt
  replace pu := pu.below hb pu.lt
  replace pz := pz.below hb pz.lt
  replace rt := (rt.below hb).mono hb.size
  replace ru := (ru.below hb).mono hb.size
  replace ry := (ry.below hb).mono hb.size
  replace rz := (rz.below hb).mono hb.size
  replace qa := qa.trans (hb.mono qa.size)
  replace qb := qb.trans (hb.mono qb.size)
  replace q := q.trans (hb.mono q.size)
  rw [(trim_texts (sync_ok HK.out).2).2] at hOc
  obtain rfl := hOc.len
  have rc := hOc.rows
  have qc := Below.refl v9.heap.size v9
  clear hOc hb
  have hT := textsF_count bs
  go_upto_region 13 with (fail)
  go_loopw [12] (fun i wr => ∃ k : Nat, i = .int .i64 k ∧ k ≤ (textsF bs).length ∧ Below v9.heap.size v9 wr) (fun i _ => (textsF bs).length - (intOf i).toNat)
  case atStart => exact ⟨0, rfl, Nat.zero_le _, Below.refl _ _⟩
  case round =>
    obtain ⟨k, rfl, hk, hbr⟩ := hrel
    rcases Nat.lt_or_ge k (textsF bs).length with hlt | hge
    · obtain ⟨b1, f1, A1, L1, C1, rfl, hb1, hc1, hr1⟩ := ra.at (qa.trans (hbr.mono qa.size)) k hlt
      obtain ⟨b2, f2, A2, L2, C2, rfl, hb2, hc2, hr2⟩ := rb.at (qb.trans (hbr.mono qb.size)) k hlt
      obtain ⟨b3, f3, A3, L3, C3, rfl, hb3, hc3, hr3⟩ := rc.at (qc.trans (hbr.mono qc.size)) k hlt
      have hcv1 : ∀ q, (convert 22 9 (.slice A1 L1 C1)).run Try.prog (wr.drewN q) = .ok (.string (strOf (textsF bs)[k])) (wr.drewN q) := fun q => run_conv byP (hr1.drewN q)
      have hcv2 : ∀ q, (convert 22 9 (.slice A2 L2 C2)).run Try.prog (wr.drewN q) = .ok (.string (strOf (textsF bs)[k])) (wr.drewN q) := fun q => run_conv byP (hr2.drewN q)
      have hcv3 : ∀ q, (convert 22 9 (.slice A3 L3 C3)).run Try.prog (wr.drewN q) = .ok (.string (strOf (textsF bs)[k])) (wr.drewN q) := fun q => run_conv byP (hr3.drewN q)
      go_upto_region 15 with (fail)
      go_quiet (fail)
      go_wp2
      go_roundw
      case rel => exact ⟨k + 1, by go_num, by omega, Below.drewN hbr _⟩
      case measure => simp [intOf]; omega
    · obtain rfl : k = (textsF bs).length := by omega
      replace pl := pl.below hbr pl.lt
      replace pt := pt.below hbr pt.lt
      replace pu := pu.below hbr pu.lt
      replace pz := pz.below hbr pz.lt
      replace rt := (rt.below hbr).mono hbr.size
      replace ru := (ru.below hbr).mono hbr.size
      replace ry := (ry.below hbr).mono hbr.size
      replace rz := (rz.below hbr).mono hbr.size
      replace qa := qa.trans (hbr.mono qa.size)
      replace qb := qb.trans (hbr.mono qb.size)
      replace qc := qc.trans (hbr.mono qc.size)
      replace q := q.trans (hbr.mono q.size)
      clear ra rb rc qa qb qc
      have plc0 := pl.cell0
      have plc1 := pl.cell1
      have ptc0 := pt.cell0
      have ptc1 := pt.cell1
      have puc0 := pu.cell0
      have puc1 := pu.cell1
      have pzc0 := pz.cell0
      have pzc1 := pz.cell1
      have hrl := hr.below q
      go_wp2_with fail
      refine (hC.check _ rt (Nat.le_refl _) (by omega) (trim_ok HK.out).i64).mono ?_
      rw [decide_eq_true (trim_ok HK.out)]
      rintro e v10 ⟨rfl, hb⟩
      clear plc0 plc1 ptc0 ptc1 puc0 puc1 pzc0 pzc1
      replace pl := pl.below hb pl.lt
      replace pt := pt.below hb pt.lt
      replace pu := pu.below hb pu.lt
      replace pz := pz.below hb pz.lt
      replace rt := (rt.below hb).mono hb.size
      replace ru := (ru.below hb).mono hb.size
      replace ry := (ry.below hb).mono hb.size
      replace rz := (rz.below hb).mono hb.size
      replace q := q.trans (hb.mono q.size)
      have hrl2 := hr.below q
      have plc0 := pl.cell0
      have plc1 := pl.cell1
      have ptc0 := pt.cell0
      have ptc1 := pt.cell1
      have puc0 := pu.cell0
      have puc1 := pu.cell1
      have pzc0 := pz.cell0
      have pzc1 := pz.cell1
      clear hrl
      go_wp2_with (first | (refine wpList_conv byP rfl rfl rfl rt ?_) | (refine wpList_conv byP rfl rfl rfl ru ?_) | (refine wpList_conv byP rfl rfl rfl rz ?_) | (refine wpList_conv byP rfl rfl rfl hrl2 ?_))
      go_ret
      exact ⟨rfl, q⟩
end Go.Proofs.Ytebilecgmblmfaa
