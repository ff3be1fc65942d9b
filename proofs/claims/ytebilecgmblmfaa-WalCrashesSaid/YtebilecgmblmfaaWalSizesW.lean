/-
  THE WALK OF WalSizes: whatever the log and the texts: true, and nothing that lay has turned; wal's functions by their contracts.
-/
import Derived.WalkKit
import Derived.WalkSpells
import Derived.WalkLawsBesides
import Derived.Lib.Hide
import Derived.Deep.Cut
import Derived.Deep.QuietTactic
import Derived.BigQuiet
import Derived.Test.YtebilecgmblmfaaProg
import Derived.Test.YtebilecgmblmfaaByte
import Derived.Test.YtebilecgmblmfaaAux
import Derived.Test.YtebilecgmblmfaaRyo
import Derived.Test.YtebilecgmblmfaaKept
import Derived.Test.YtebilecgmblmfaaWalM
import Derived.Test.YtebilecgmblmfaaWalR
import Derived.Test.YtebilecgmblmfaaWalS
import Derived.Test.YtebilecgmblmfaaWalC
import Derived.Test.YtebilecgmblmfaaWalTrimsW
namespace Go.Proofs.Ytebilecgmblmfaa
open Go.RowKit
theorem framesB_snoc' (xss : List (List UInt8)) (k : Nat) (h : k < xss.length) : framesB (xss.take (k + 1)) = framesB (xss.take k) ++ frameB xss[k] := by
  rw [List.take_succ_eq_append_getElem h, framesB_append]; simp [framesB]
theorem app_known {w w' : World} {bs zs : List UInt8} {s : Int} {tss : List (List UInt8)} {er : Nat} {e : Ending} (hA : appS bs s tss = (zs, er)) (h : AppEnd w bs s tss e w') :
    ∃ a k c, e = .returned (.tuple #[.agg #[.slice a k c, .int .i64 s], .int .i64 (er : Nat)]) ∧ Rd w'.heap.size w' (.slice a k c) zs ∧ Below w.heap.size w w' := by
  unfold AppEnd at h; rw [hA] at h; exact h
set_option maxRecDepth 100000 in
set_option maxHeartbeats 2000000 in
theorem WalSizes_w (hC : WalC) (w : World) {a0 : Option Addr} {n0 c0 : Nat} {bs : List UInt8} (hr : Rd w.heap.size w (.slice a0 n0 c0) bs) {s : Int} (hs : (Lit.int .i64 s).wf = true) {a2 : Option Addr} {n2 c2 : Nat} {tss : List (List UInt8)} (ht : RdRows w (.slice a2 n2 c2) tss) :
    Calls Try.prog 8 #[.agg #[.slice a0 n0 c0, .int .i64 s], .slice a2 n2 c2] w fun e w' => e = .returned (.bool true) ∧ Below w.heap.size w w' := by
  obtain ⟨rfl, hnc, hcm⟩ := hr.len
  obtain ⟨rfl, hnc2, hcm2⟩ := ht.len
  have hlm : bs.length ≤ 9223372036854775807 := by unfold maxLen at hcm; omega
  have hlm2 : tss.length ≤ 9223372036854775807 := by unfold maxLen at hcm2; omega
  replace hs := i64_wf hs
  have pl := PairV.new w 24 (.slice a0 bs.length c0) (.int .i64 s)
  have q : Below w.heap.size w (w.alloc (.cells #[.slice a0 bs.length c0, .int .i64 s] 24)) := (Below.refl _ _).alloc (Nat.le_refl _) _
  go_enter Try.func8, Try.ntmps8
  go_wp2_with fail
  generalize w.alloc (.cells #[.slice a0 bs.length c0, .int .i64 s] 24) = W0 at *
  refine (hC.awake W0).mono ?_
  rintro e v1 ⟨rfl, hb⟩
  replace pl := pl.below hb pl.lt
  replace q := q.trans (hb.mono q.size)
  have plc0 := pl.cell0
  have plc1 := pl.cell1
  by_cases hlen : 2000 < bs.length
  · have d : decide ((2000 : Int) < bs.length) = true := by simp; omega
    go_wp2_with fail
    go_ret
    exact ⟨rfl, q⟩
  have d : decide ((2000 : Int) < bs.length) = false := by simp; omega
  by_cases hlen2 : 20 < tss.length
  · have d2 : decide ((20 : Int) < tss.length) = true := by simp; omega
    go_wp2_with fail
    go_ret
    exact ⟨rfl, q⟩
  have d2 : decide ((20 : Int) < tss.length) = false := by simp; omega
  have hx : bs.length ≤ 1000000 := by omega
  have hx2 : bs.length ≤ 2000 := by omega
  have hn20 : tss.length ≤ 20 := by omega
  clear hlen hlen2
  go_wp2_with fail
  refine (hC.check _ (hr.below q) q.size hx hs).mono ?_
  rintro e v2 ⟨rfl, hb⟩
  clear plc0 plc1
  replace pl := pl.below hb pl.lt
  replace q := q.trans (hb.mono q.size)
  have plc0 := pl.cell0
  have plc1 := pl.cell1
  rcases (Decidable.em (okL bs s)).symm with hk | hk
  · have hd : decide (okL bs s) = false := decide_eq_false hk
    rw [hd]
    go_wp2_with fail
    go_ret
    exact ⟨rfl, q⟩
  have hd : decide (okL bs s) = true := decide_eq_true hk
  rw [hd]
  have HK := Lib.hid hk
  have htl := trim_len hk
  clear hk hd d d2
  go_wp2_with fail
  refine (hC.trim _ (hr.below q) q.size hx hs).mono ?_
  rintro e v3 ⟨at', kt, ct, rfl, rt, hb⟩
  clear plc0 plc1
  replace pl := pl.below hb pl.lt
  replace q := q.trans (hb.mono q.size)
  go_upto_region 5 with (fail)
  have pt := PairV.new v3 24 (.slice at' kt ct) (.int .i64 (trimN bs s))
  have hbx : Below v3.heap.size v3 (v3.alloc (.cells #[.slice at' kt ct, .int .i64 (trimN bs s)] 24)) := (Below.refl _ _).alloc (Nat.le_refl _) _
  replace pl := pl.alloc (.cells #[.slice at' kt ct, .int .i64 (trimN bs s)] 24)
  replace rt := (rt.below hbx).mono hbx.size
  replace q := q.trans (hbx.mono q.size)
  clear hbx
  generalize v3.alloc (.cells #[.slice at' kt ct, .int .i64 (trimN bs s)] 24) = W1 at *
  have hkt := rt.len.1
  have hktm : kt ≤ 2000 := by omega
  have HKT := Lib.hid hkt
  clear hkt
  have ptc0 := pt.cell0
  have ptc1 := pt.cell1
  go_upto_region 7 with (fail)
  clear ptc0 ptc1
  go_loopw [7, 8] (fun nv i wr => ∃ k : Nat, i = .int .i64 k ∧ k ≤ tss.length ∧ (∀ r (hr : r < tss.length), r < k → tss[r].length ≤ 100) ∧ nv = .int .i64 ((kt : Int) + (framesB (tss.take k)).length) ∧ (framesB (tss.take k)).length ≤ 105 * k ∧ wr = W1) (fun _ i _ => tss.length - (intOf i).toNat)
  case atStart => exact ⟨0, rfl, Nat.zero_le _, fun r _ h => by omega, by simp [framesB], by simp [framesB], rfl⟩
  case round =>
    obtain ⟨k, rfl, hkl, hle, rfl, hfl, rfl⟩ := hrel
    rcases Nat.lt_or_ge k tss.length with hlt | hge
    · obtain ⟨b, off, A, L, C, rfl, hbl, hcell, hrd⟩ := ht.at q k hlt
      obtain rfl : L = tss[k].length := hrd.len.1
      have hLm : tss[k].length ≤ 9223372036854775807 := by have := hrd.len.2; unfold maxLen at this; omega
      by_cases hbig : 100 < tss[k].length
      · have d3 : decide ((100 : Int) < tss[k].length) = true := by simp; omega
        go_wp2_with fail
        go_ret
        exact ⟨rfl, q⟩
      · have d3 : decide ((100 : Int) < tss[k].length) = false := by simp; omega
        have h100 : tss[k].length ≤ 100 := by omega
        have hfs := Lib.hid (frameB_small (t := tss[k]) (by omega))
        have hsn := Lib.hid (framesB_snoc' tss k hlt)
        have hle' : ∀ r (hr : r < tss.length), r < k + 1 → tss[r].length ≤ 100 := fun r hr h => by
          rcases Nat.lt_or_ge r k with h4 | h4
          · exact hle r hr h4
          · obtain rfl : r = k := by omega
            exact h100
        have HLE := Lib.hid hle'
        clear hle hle' hbig
        go_wp2_with fail
        go_roundw
        case rel =>
          have hf := hfs.out
          refine ⟨k + 1, by go_num, by omega, HLE.out, ?_, by rw [hsn.out, List.length_append]; omega, by first | rfl | trivial⟩
          rw [hsn.out, List.length_append]
          go_num
        case measure => simp [intOf]; omega
    · obtain rfl : k = tss.length := by omega
      have hle2 : ∀ t ∈ tss, t.length ≤ 100 := fun t h => by obtain ⟨r, hr, rfl⟩ := List.mem_iff_getElem.1 h; exact hle r hr hr
      have hfit := app_fits HK.out hx2 hle2 hn20
      have HF1 := Lib.hid hfit.1
      have HF2 := Lib.hid hfit.2.1
      have HF3 := Lib.hid hfit.2.2
      rw [List.take_length] at hfl
      clear hle hle2 hfit hkl hge
      rw [List.take_length]
      have ptc0 := pt.cell0
      have ptc1 := pt.cell1
      go_wp2_with fail
      refine (hC.app _ rt (Nat.le_refl _) (by omega) (trim_ok HK.out).i64 ht q (by omega)).mono ?_
      rintro e v4 hA
      obtain ⟨am, km, cm, rfl, rm, hb⟩ := app_known HF1.out hA
      clear hA
      clear ptc0 ptc1
      replace pl := pl.below hb pl.lt
      replace pt := pt.below hb pt.lt
      replace rt := (rt.below hb).mono hb.size
      replace q := q.trans (hb.mono q.size)
      go_upto_region 13 with (fail)
      have pm := PairV.new v4 24 (.slice am km cm) (.int .i64 (trimN bs s))
      have hbx : Below v4.heap.size v4 (v4.alloc (.cells #[.slice am km cm, .int .i64 (trimN bs s)] 24)) := (Below.refl _ _).alloc (Nat.le_refl _) _
      replace pl := pl.alloc (.cells #[.slice am km cm, .int .i64 (trimN bs s)] 24)
      replace pt := pt.alloc (.cells #[.slice am km cm, .int .i64 (trimN bs s)] 24)
      replace rt := (rt.below hbx).mono hbx.size
      replace rm := (rm.below hbx).mono hbx.size
      replace q := q.trans (hbx.mono q.size)
      clear hbx
      generalize v4.alloc (.cells #[.slice am km cm, .int .i64 (trimN bs s)] 24) = W2 at *
      have hkm : km = kt + (framesB tss).length := by have h1 := rm.len.1; have h2 := HKT.out; rw [List.length_append] at h1; omega
      subst hkm
      have ptc0 := pt.cell0
      have ptc1 := pt.cell1
      go_wp2_with fail
      refine (hC.texts _ rt (Nat.le_refl _) (by omega) (trim_ok HK.out).i64).mono ?_
      rintro e v5 ⟨aa, ka, ca, rfl, hOa, hb⟩
      clear ptc0 ptc1
      replace pl := pl.below hb pl.lt
      replace pt := pt.below hb pt.lt
      replace pm := pm.below hb pm.lt
      replace rt := (rt.below hb).mono hb.size
      replace rm := (rm.below hb).mono hb.size
      replace q := q.trans (hb.mono q.size)
      rw [(trim_texts HK.out).1] at hOa
      obtain rfl := hOa.len
      have ra := hOa.rows
      have qa := Below.refl v5.heap.size v5
      clear hOa hb
      have pmc0 := pm.cell0
      have pmc1 := pm.cell1
      go_wp2_with fail
      refine (hC.texts _ rm (Nat.le_refl _) (by rw [List.length_append]; omega) (trim_ok HK.out).i64).mono ?_
      rintro e v6 ⟨ab, kb, cb, rfl, hOb, hb⟩
      clear pmc0 pmc1
      replace pl := pl.below hb pl.lt
      replace pt := pt.below hb pt.lt
      replace pm := pm.below hb pm.lt
      replace rt := (rt.below hb).mono hb.size
      replace rm := (rm.below hb).mono hb.size
      replace qa := qa.trans (hb.mono qa.size)
      replace q := q.trans (hb.mono q.size)
      rw [HF3.out] at hOb
      have hkb := hOb.len
      rw [List.length_append] at hkb
      obtain rfl := hkb
      have rb := hOb.rows
      have qb := Below.refl v6.heap.size v6
      clear hOb hb
      have hT := textsF_count bs
      have ptc0 := pt.cell0
      have ptc1 := pt.cell1
      have pmc0 := pm.cell0
      have pmc1 := pm.cell1
      go_upto_region 18 with (fail)
      clear ptc0 ptc1 pmc0 pmc1
      go_loopw [13] (fun i wr => ∃ k : Nat, i = .int .i64 k ∧ k ≤ tss.length ∧ Below v6.heap.size v6 wr) (fun i _ => tss.length - (intOf i).toNat)
      case atStart => exact ⟨0, rfl, Nat.zero_le _, Below.refl _ _⟩
      case round =>
        obtain ⟨k, rfl, hk, hbr⟩ := hrel
        rcases Nat.lt_or_ge k tss.length with hlt | hge
        · have hbk : (textsF bs).length + k < (textsF bs ++ tss).length := by rw [List.length_append]; omega
          have hgk : (textsF bs ++ tss)[(textsF bs).length + k]'hbk = tss[k] := by simp
          obtain ⟨b1, f1, A1, L1, C1, rfl, hb1, hc1, hr1⟩ := rb.at (qb.trans (hbr.mono qb.size)) ((textsF bs).length + k) hbk
          rw [hgk] at hr1
          obtain ⟨b2, f2, A2, L2, C2, rfl, hb2, hc2, hr2⟩ := ht.at (q.trans (hbr.mono q.size)) k hlt
          have hcv1 : ∀ q, (convert 22 9 (.slice A1 L1 C1)).run Try.prog (wr.drewN q) = .ok (.string (strOf tss[k])) (wr.drewN q) := fun q => run_conv byP (hr1.drewN q)
          have hcv2 : ∀ q, (convert 22 9 (.slice A2 L2 C2)).run Try.prog (wr.drewN q) = .ok (.string (strOf tss[k])) (wr.drewN q) := fun q => run_conv byP (hr2.drewN q)
          clear hbk hgk
          go_upto_region 20 with (fail)
          go_quiet (fail)
          go_wp2
          go_roundw
          case rel => exact ⟨k + 1, by go_num, by omega, Below.drewN hbr _⟩
          case measure => simp [intOf]; omega
        · obtain rfl : k = tss.length := by omega
          replace pl := pl.below hbr pl.lt
          replace pt := pt.below hbr pt.lt
          replace pm := pm.below hbr pm.lt
          replace rt := (rt.below hbr).mono hbr.size
          replace rm := (rm.below hbr).mono hbr.size
          replace qa := qa.trans (hbr.mono qa.size)
          replace qb := qb.trans (hbr.mono qb.size)
          replace q := q.trans (hbr.mono q.size)
          clear ra rb qa qb
          have pmc0 := pm.cell0
          have pmc1 := pm.cell1
          go_wp2_with fail
          refine (hC.check _ rm (Nat.le_refl _) (by rw [List.length_append]; omega) (trim_ok HK.out).i64).mono ?_
          rw [decide_eq_true HF2.out]
          rintro e v7 ⟨rfl, hb⟩
          clear pmc0 pmc1
          replace pl := pl.below hb pl.lt
          replace pt := pt.below hb pt.lt
          replace pm := pm.below hb pm.lt
          replace rt := (rt.below hb).mono hb.size
          replace rm := (rm.below hb).mono hb.size
          replace q := q.trans (hb.mono q.size)
          go_wp2_with fail
          go_ret
          exact ⟨rfl, q⟩
end Go.Proofs.Ytebilecgmblmfaa
