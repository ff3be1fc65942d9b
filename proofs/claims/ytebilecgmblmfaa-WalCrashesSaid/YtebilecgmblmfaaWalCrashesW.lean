/-
  THE WALK OF WalCrashes: whatever the texts, how many of them are synced, and where the crash cuts: true, and nothing that lay has turned; wal's functions by their contracts.
-/
import Derived.WalkKit
import Derived.WalkSpells
import Derived.WalkLawsBesides
import Derived.Lib.Hide
import Derived.Deep.Cut
import Derived.Deep.QuietTactic
import Derived.BigQuiet
import Derived.Test.YtebilecgmblmfaaProg
import Derived.Test.YtebilecgmblmfaaByte
import Derived.Test.YtebilecgmblmfaaAux
import Derived.Test.YtebilecgmblmfaaRyo
import Derived.Test.YtebilecgmblmfaaInts
import Derived.Test.YtebilecgmblmfaaKept
import Derived.Test.YtebilecgmblmfaaLink
import Derived.Test.YtebilecgmblmfaaSink
import Derived.Test.YtebilecgmblmfaaWalM
import Derived.Test.YtebilecgmblmfaaWalR
import Derived.Test.YtebilecgmblmfaaWalS
import Derived.Test.YtebilecgmblmfaaWalC
import Derived.Test.YtebilecgmblmfaaWalG
import Derived.Test.YtebilecgmblmfaaWalTrimsW
import Derived.Test.YtebilecgmblmfaaWalSizesW
import Derived.Test.YtebilecgmblmfaaWalTellsW
import Derived.Test.YtebilecgmblmfaaWalPartsW
import Derived.Test.YtebilecgmblmfaaWalA
namespace Go.Proofs.Ytebilecgmblmfaa
open Go.RowKit
/-- How many texts are synced behind i appends. -/
def cAt (y i : Nat) : Nat := if y < i then y else 0
theorem cAt_next {y i : Nat} (h : i ≠ y) : cAt y (i + 1) = cAt y i := by unfold cAt; split <;> split <;> omega
theorem cAt_here (i : Nat) : cAt i (i + 1) = i := by unfold cAt; rw [if_pos (by omega)]
set_option maxRecDepth 100000 in
set_option maxHeartbeats 4000000 in
theorem WalCrashes_w (hC : WalC) (w : World) {a0 : Option Addr} {n0 c0 : Nat} {tss : List (List UInt8)} (ht : RdRows w (.slice a0 n0 c0) tss) {sy : Int} (hy0 : 0 ≤ sy) (hy1 : sy < 256) {keep : Int} (hkeep : (Lit.int .i64 keep).wf = true) {a3 : Option Addr} {n3 c3 : Nat} {ms : List UInt8} (hm : Rd w.heap.size w (.slice a3 n3 c3) ms) :
    Calls Try.prog 4 #[.slice a0 n0 c0, .int .u8 sy, .int .i64 keep, .slice a3 n3 c3] w fun e w' => e = .returned (.bool true) ∧ Below w.heap.size w w' := by
  obtain ⟨rfl, hnc, hcm⟩ := hm.len
  obtain ⟨rfl, hnc2, hcm2⟩ := ht.len
  have hlm : ms.length ≤ 9223372036854775807 := by unfold maxLen at hcm; omega
  have hlm2 : tss.length ≤ 9223372036854775807 := by unfold maxLen at hcm2; omega
  replace hkeep := i64_wf hkeep
  have q := Below.refl w.heap.size w
  go_enter Try.func4, Try.ntmps4
  go_wp2_with fail
  refine (hC.awake w).mono ?_
  rintro e v1 ⟨rfl, hb⟩
  replace q := q.trans (hb.mono q.size)
  by_cases hlen : 20 < tss.length
  · have d : decide ((20 : Int) < tss.length) = true := by simp; omega
    go_wp2_with fail
    go_ret
    exact ⟨rfl, q⟩
  have d : decide ((20 : Int) < tss.length) = false := by simp; omega
  by_cases hlen2 : 300 < ms.length
  · have d2 : decide ((300 : Int) < ms.length) = true := by simp; omega
    go_wp2_with fail
    go_ret
    exact ⟨rfl, q⟩
  have d2 : decide ((300 : Int) < ms.length) = false := by simp; omega
  have hn20 : tss.length ≤ 20 := by omega
  have hm300 : ms.length ≤ 300 := by omega
  clear hlen hlen2
  obtain ⟨y, rfl⟩ : ∃ y : Nat, sy = y := ⟨sy.toNat, by omega⟩
  go_upto_region 6 with (fail)
  obtain ⟨z, hz, hz20⟩ : ∃ z : Nat, ((y : Int) % 21) = z ∧ z ≤ 20 := ⟨y % 21, by omega, by omega⟩
  rw [hz]
  clear hz d d2
  have po := PairV.new v1 24 (.slice none 0 0) (.int .i64 0)
  have hbx : Below v1.heap.size v1 (v1.alloc (.cells #[.slice none 0 0, .int .i64 0] 24)) := (Below.refl _ _).alloc (Nat.le_refl _) _
  have hgw : w.heap.size ≤ v1.heap.size := q.size
  replace q := q.trans (hbx.mono q.size)
  clear hbx hb
  generalize v1.alloc (.cells #[.slice none 0 0, .int .i64 0] 24) = W0 at *
  generalize v1.heap.size = g at *
  go_upto_region 7 with (fail)
  go_loopw [12] (fun iv wr => ∃ (k : Nat) (a5 : Option Addr) (k5 c5 : Nat) (zs : List UInt8) (s : Int), iv = .int .i64 k ∧ k ≤ tss.length ∧ LogAt (tss.take k) (cAt z k) zs s ∧ PairV wr g 24 (.slice a5 k5 c5) (.int .i64 s) ∧ Rd wr.heap.size wr (.slice a5 k5 c5) zs ∧ Below w.heap.size w wr)
    (fun i _ => tss.length - (intOf i).toNat)
  case atStart => exact ⟨0, none, 0, 0, [], 0, rfl, Nat.zero_le _, by have := LogAt.nil; simpa [cAt] using this, po, Rd.nil _ _, q⟩
  case round =>
    clear po q
    obtain ⟨k, a5, k5, c5, zs, s, rfl, hkl, hL, po, r3, q⟩ := hrel
    obtain rfl := r3.len.1
    by_cases hlt : k < tss.length
    · obtain ⟨b, off, Ar, L, C, rfl, hbl, hcell0, hrd0⟩ := ht.at (Below.refl _ _) k hlt
      obtain rfl : L = tss[k].length := hrd0.len.1
      have hcell := (q.cell (p := ⟨b, off + k, none⟩) hbl).trans hcell0
      have hrd := hrd0.below q
      have hLm : tss[k].length ≤ 9223372036854775807 := by have := hrd0.len.2; unfold maxLen at this; omega
      by_cases hbig : 300 < tss[k].length
      · have d3 : decide ((300 : Int) < tss[k].length) = true := by simp; omega
        go_wp2_with fail
        go_ret
        exact ⟨rfl, q⟩
      have d3 : decide ((300 : Int) < tss[k].length) = false := by simp; omega
      have h300 : tss[k].length ≤ 300 := by omega
      have hts := Lib.hid (take_snoc tss k hlt)
      obtain ⟨yt, hyt⟩ : ∃ y, y = tss[k] := ⟨_, rfl⟩
      rw [← hyt] at hrd hrd0 d3 h300 hts hLm hcell hcell0
      clear hyt hbig
      by_cases hkz : k = z
      · subst hkz
        have d4 : ((k : Int) == (k : Int)) = true := by simp
        have HS := Lib.hid hL.sync
        have hL' := hL.i64
        have hzl := hL.len
        have poc0 := po.cell0
        have poc1 := po.cell1
        go_wp2_with fail
        refine (hC.sync _ r3 (Nat.le_refl _) (by omega) hL').mono ?_
        rintro e v5 ⟨a6, k6, c6, rfl, r6, hb⟩
        clear poc0 poc1 hL hL'
        have hL2 : LogAt (tss.take k) k zs (syncN zs s) := by have h := HS.out; rwa [show (tss.take k).length = k by rw [List.length_take]; omega] at h
        have HC := Lib.hid (cAt_here k)
        clear HS
        generalize syncN zs s = s2 at *
        have hs := hL2.i64
        obtain rfl := r6.len.1
        replace po := po.below hb po.lt
        replace q := q.trans (hb.mono q.size)
        clear r3 hb
        have pof0 := po.frozen0
        have pof1 := po.frozen1
        have poc0 := po.cell0
        have poc1 := po.cell1
        have po5 := (po.put0 (.slice a6 zs.length c6)).put1 (.int .i64 s2)
        have r5 := rd_set2 (u := .slice a6 zs.length c6) (z := .int .i64 s2) r6 po (notU8_slice _ _ _) (notU8_int _) (notU8_slice _ _ _)
        have q5 := (q.setCell (p := ⟨g, 0, none⟩) hgw (.slice a6 zs.length c6)).setCell (p := ⟨g, 1, none⟩) hgw (.int .i64 s2)
        go_upto_region 13 with (fail)
        clear pof0 pof1 poc0 poc1 po r6 hcell hrd q
        generalize (v5.setCell ⟨g, 0, none⟩ (.slice a6 zs.length c6)).setCell ⟨g, 1, none⟩ (.int .i64 s2) = W5 at *
        have po := po5
        have r3 := r5
        have q := q5
        clear po5 r5 q5
        have hcell := (q.cell (p := ⟨b, off + k, none⟩) hbl).trans hcell0
        have hrd := hrd0.below q
        have HAP := Lib.hid (hL2.app h300)
        have HN := Lib.hid (hL2.snoc h300 (by rw [List.length_take]; omega))
        clear hL2
        refine wp_region_new (by kernel_rfl) (by kernel_rfl) W5.heap.size (fun b => W5.heap.size ≤ b) 24 11 10 (Nat.le_refl _) (fun _ h => h) [kEq (.agg #[.slice a6 zs.length c6, .int .i64 s2]), kEq (.slice (some ⟨b, off, none⟩) tss.length c0), kEq (.int .i64 k), kEq (.pointer (some ⟨b, off + k, none⟩)), kEq (.slice Ar yt.length C), kRow 22 (yt), kApp (zs ++ framesB [yt]) s2 0, kApp (zs ++ framesB [yt]) s2 0, kLog (zs ++ framesB [yt]) s2, kEq (.int .i64 0), kBox, kAny, kEq (.int .i64 0)]
          (fun p => ⟨fun w' _ => ∃ b ad k c, p = .pointer (some ⟨b, 0, none⟩) ∧ PairV w' b 24 (.slice ad k c) (.int .i64 s2) ∧ Rd w'.heap.size w' (.slice ad k c) (zs ++ framesB [yt]), fun A v C ⟨b, ad, k, c, h0, h, hr⟩ hb => ⟨b, ad, k, c, h0, h.below hb h.lt, (hr.below hb).mono hb.size⟩⟩)
          (by kernel_rfl) ⟨?o0, ?o1, ?o2, ?o3, ?o4, ?o5, ?o6, ?o7, ?o8, ?o9, ?o10, ?o11, ?o12, trivial⟩ ?fin
        case o0 =>
          refine GdOpL.plain rfl (fun A vs w' hF hT hR hd => ?_)
          exact wp_loadP logP rfl (hF 11 rfl) (hR.pair po (Nat.not_le.2 po.lt)).cell0 (hR.pair po (Nat.not_le.2 po.lt)).cell1 ⟨_, rfl, rfl, Below.refl _ _⟩
        case o1 =>
          refine GdOpL.plain rfl (fun A vs w' hF hT hR hd => ?_)
          exact BigFrame.wp_move _ rfl ⟨_, rfl, hF 0 rfl, Below.refl _ _⟩
        case o2 =>
          refine GdOpL.plain rfl (fun A vs w' hF hT hR hd => ?_)
          exact BigFrame.wp_move _ rfl ⟨_, rfl, hF 12 rfl, Below.refl _ _⟩
        case o3 =>
          refine GdOpL.plain rfl (fun A vs w' hF hT hR hd => ?_)
          have e1 : A.eval (.tmp 56) = .slice (some ⟨b, off, none⟩) tss.length c0 := (hT 56 1 (by simp) rfl).trans (hd ⟨1, .data⟩ (by simp) rfl)
          have e2 : A.eval (.tmp 57) = .int .i64 k := (hT 57 2 (by simp) rfl).trans (hd ⟨2, .data⟩ (by simp) rfl)
          exact wp_ix (e := 22) rfl (by kernel_rfl) (by kernel_rfl) e1 e2 rfl (by omega) ⟨_, rfl, rfl, Below.refl _ _⟩
        case o4 =>
          refine GdOpL.plain rfl (fun A vs w' hF hT hR hd => ?_)
          have e1 : A.eval (.tmp 58) = .pointer (some ⟨b, off + k, none⟩) := (hT 58 3 (by simp) rfl).trans (hd ⟨3, .data⟩ (by simp) rfl)
          exact wp_ld_slice (e := 5) rfl e1 (by kernel_rfl) ((hR.below.cell (p := ⟨b, off + k, none⟩) (Nat.lt_of_lt_of_le hbl q.size)).trans hcell) ⟨_, rfl, rfl, Below.refl _ _⟩
        case o5 =>
          refine GdOpL.plain rfl (fun A vs w' hF hT hR hd => ?_)
          have e1 : A.eval (.tmp 59) = .slice Ar yt.length C := (hT 59 4 (by simp) rfl).trans (hd ⟨4, .data⟩ (by simp) rfl)
          have hb1 : Below w'.heap.size w' (w'.alloc (.cells #[.slice Ar yt.length C] 22)) := (Below.refl _ _).alloc (Nat.le_refl _) _
          have hrr := (hrd.below (hR.below.mono q.size)).mono (Nat.le_trans q.size hR.below.size)
          exact wp_oneRow ryP rfl e1 ⟨_, rfl, ⟨_, Ar, _, C, rfl, heap_alloc_self _ _, (hrr.below hb1).mono hb1.size⟩, hb1⟩
        case o6 =>
          refine GdOpL.plain rfl (fun A vs w' hF hT hR hd => ?_)
          have e1 : A.eval (.tmp 55) = .agg #[.slice a6 zs.length c6, .int .i64 s2] := (hT 55 0 (by simp) rfl).trans (hd ⟨0, .data⟩ (by simp) rfl)
          obtain ⟨b5, A5, L5, C5, q5, hc5, hr5⟩ := (hd ⟨5, .data⟩ (by simp) rfl)
          have e2 : A.eval (.tmp 60) = .slice (some ⟨b5, 0, none⟩) 1 1 := (hT 60 5 (by simp) rfl).trans q5
          refine wp_callFn rfl (enters_of Try.func11 (by kernel_rfl) rfl) (args := #[.agg #[.slice a6 zs.length c6, .int .i64 s2], .slice (some ⟨b5, 0, none⟩) 1 1]) (by simp [e1, e2]) ((hC.app w' (r3.below hR.below) hR.below.size (by omega) hs (rows_one hc5 hr5) (Below.refl _ _) (by simp)).mono ?_)
          rintro e w2 hA5
          obtain ⟨a5, k5, c5, rfl, r5, hb2⟩ := app_known HAP.out hA5
          exact ⟨_, rfl, _, rfl, ⟨a5, k5, c5, rfl, r5⟩, hb2⟩
        case o7 =>
          refine GdOpL.plain rfl (fun A vs w' hF hT hR hd => ?_)
          obtain ⟨a5, k5, c5, q5, hr5⟩ := (hd ⟨6, .data⟩ (by simp) rfl)
          exact BigFrame.wp_move _ rfl ⟨_, rfl, ⟨a5, k5, c5, (hT 61 6 (by simp) rfl).trans q5, hr5⟩, Below.refl _ _⟩
        case o8 =>
          refine GdOpL.plain rfl (fun A vs w' hF hT hR hd => ?_)
          obtain ⟨a5, k5, c5, q5, hr5⟩ := (hd ⟨7, .data⟩ (by simp) rfl)
          exact wp_ex rfl ((hT 54 7 (by simp) rfl).trans q5) rfl ⟨_, rfl, ⟨a5, k5, c5, rfl, hr5⟩, Below.refl _ _⟩
        case o9 =>
          refine GdOpL.plain rfl (fun A vs w' hF hT hR hd => ?_)
          obtain ⟨a5, k5, c5, q5, hr5⟩ := (hd ⟨7, .data⟩ (by simp) rfl)
          exact wp_ex rfl ((hT 54 7 (by simp) rfl).trans q5) rfl ⟨_, rfl, rfl, Below.refl _ _⟩
        case o10 =>
          refine GdOpL.plain rfl (fun A vs w' hF hT hR hd => ?_)
          exact wp_allocP logP rfl ⟨_, rfl, ⟨_, rfl, hR.below.size, ⟨_, _, heap_alloc_self _ _, notU8_slice _ _ _, notU8_int _⟩⟩, (Below.refl _ _).alloc (Nat.le_refl _) _⟩
        case o11 =>
          refine GdOpL.plain rfl (fun A vs w' hF hT hR hd => ?_)
          obtain ⟨b5, q5, hb5, u0, v0, hx5, n1, n2⟩ := (hd ⟨10, .data⟩ (by simp) rfl)
          obtain ⟨a5, k5, c5, q6, hr6⟩ := (hd ⟨8, .data⟩ (by simp) rfl)
          have e1 : A.eval (.tmp 13) = .pointer (some ⟨b5, 0, none⟩) := (hT 13 10 (by simp) rfl).trans q5
          have e2 : A.eval (.tmp 62) = .agg #[.slice a5 k5 c5, .int .i64 s2] := (hT 62 8 (by simp) rfl).trans q6
          refine wp_storeP logP rfl e1 e2 rfl rfl _ hx5 (fun w2 hg h2 => ?_)
          have hk : BoxK (fun b => W5.heap.size ≤ b) 24 w' w2 := .inr ⟨b5, hb5, hg, ⟨_, _, hx5, n1, n2⟩, ⟨_, _, h2, notU8_slice _ _ _, notU8_int _⟩⟩
          exact ⟨_, rfl, ⟨b5, a5, k5, c5, q5, h2, rd_box_up hr6 hk⟩, hk⟩
        case o12 =>
          refine GdOpL.plain rfl (fun A vs w' hF hT hR hd => ?_)
          exact BigFrame.wp_assign _ rfl ⟨_, rfl, (hT 63 9 (by simp) rfl).trans (hd ⟨9, .data⟩ (by simp) rfl), Below.refl _ _⟩
        case fin =>
          intro vs w' hR hG
          have e0 : vs 0 = .agg #[.slice a6 zs.length c6, .int .i64 s2] := hG 0 (by decide)
          have e1 : vs 1 = .slice (some ⟨b, off, none⟩) tss.length c0 := hG 1 (by decide)
          have e2 : vs 2 = .int .i64 k := hG 2 (by decide)
          have e3 : vs 3 = .pointer (some ⟨b, off + k, none⟩) := hG 3 (by decide)
          have e4 : vs 4 = .slice Ar yt.length C := hG 4 (by decide)
          obtain ⟨b5, A5, L5, C5, e5, _, _⟩ := hG 5 (by decide)
          obtain ⟨x6, y6, z6, e6, _⟩ := hG 6 (by decide)
          obtain ⟨x7, y7, z7, e7, _⟩ := hG 7 (by decide)
          obtain ⟨x8, y8, z8, e8, _⟩ := hG 8 (by decide)
          have e9 : vs 9 = .int .i64 0 := hG 9 (by decide)
          obtain ⟨bx, ax, kx, cx, e10, px, rx⟩ := hG 11 (by decide)
          have e12 : vs 12 = .int .i64 0 := hG 12 (by decide)
          simp only [putAll, e0, e1, e2, e3, e4, e5, e6, e7, e8, e9, e10, e12]
          clear hG e0 e1 e2 e3 e4 e5 e6 e7 e8 e9 e10 e12
          go_simp
          replace po := hR.pair po (Nat.not_le.2 po.lt)
          replace q := q.trans (hR.below.mono q.size)
          clear r3 hR hcell hrd
          have pxc0 := px.cell0
          have pxc1 := px.cell1
          have pof0 := po.frozen0
          have pof1 := po.frozen1
          have poc0 := po.cell0
          have poc1 := po.cell1
          go_wp2_with fail
          go_roundw
          case rel => exact ⟨k + 1, ax, kx, cx, _, s2, by go_num, by omega, by rw [hts.out, HC.out]; exact HN.out, (po.put0 _).put1 _, rd_set2 rx po (notU8_slice _ _ _) (notU8_int _) (notU8_slice _ _ _), (q.setCell (p := ⟨g, 0, none⟩) hgw _).setCell (p := ⟨g, 1, none⟩) hgw _⟩
          case measure => simp [intOf]; omega
      · have d4 : ((k : Int) == (z : Int)) = false := by rw [beq_eq_false_iff_ne]; omega
        have hL2 := hL
        have hs := hL.i64
        have hzl := hL.len
        have HC := Lib.hid (cAt_next (y := z) (i := k) hkz)
        clear hL
        go_upto_region 13 with (fail)
        have HAP := Lib.hid (hL2.app h300)
        have HN := Lib.hid (hL2.snoc h300 (by rw [List.length_take]; omega))
        clear hL2
        refine wp_region_new (by kernel_rfl) (by kernel_rfl) wr.heap.size (fun b => wr.heap.size ≤ b) 24 11 10 (Nat.le_refl _) (fun _ h => h) [kEq (.agg #[.slice a5 zs.length c5, .int .i64 s]), kEq (.slice (some ⟨b, off, none⟩) tss.length c0), kEq (.int .i64 k), kEq (.pointer (some ⟨b, off + k, none⟩)), kEq (.slice Ar yt.length C), kRow 22 (yt), kApp (zs ++ framesB [yt]) s 0, kApp (zs ++ framesB [yt]) s 0, kLog (zs ++ framesB [yt]) s, kEq (.int .i64 0), kBox, kAny, kEq (.int .i64 0)]
          (fun p => ⟨fun w' _ => ∃ b ad k c, p = .pointer (some ⟨b, 0, none⟩) ∧ PairV w' b 24 (.slice ad k c) (.int .i64 s) ∧ Rd w'.heap.size w' (.slice ad k c) (zs ++ framesB [yt]), fun A v C ⟨b, ad, k, c, h0, h, hr⟩ hb => ⟨b, ad, k, c, h0, h.below hb h.lt, (hr.below hb).mono hb.size⟩⟩)
          (by kernel_rfl) ⟨?o0, ?o1, ?o2, ?o3, ?o4, ?o5, ?o6, ?o7, ?o8, ?o9, ?o10, ?o11, ?o12, trivial⟩ ?fin
        case o0 =>
          refine GdOpL.plain rfl (fun A vs w' hF hT hR hd => ?_)
          exact wp_loadP logP rfl (hF 11 rfl) (hR.pair po (Nat.not_le.2 po.lt)).cell0 (hR.pair po (Nat.not_le.2 po.lt)).cell1 ⟨_, rfl, rfl, Below.refl _ _⟩
        case o1 =>
          refine GdOpL.plain rfl (fun A vs w' hF hT hR hd => ?_)
          exact BigFrame.wp_move _ rfl ⟨_, rfl, hF 0 rfl, Below.refl _ _⟩
        case o2 =>
          refine GdOpL.plain rfl (fun A vs w' hF hT hR hd => ?_)
          exact BigFrame.wp_move _ rfl ⟨_, rfl, hF 12 rfl, Below.refl _ _⟩
        case o3 =>
          refine GdOpL.plain rfl (fun A vs w' hF hT hR hd => ?_)
          have e1 : A.eval (.tmp 56) = .slice (some ⟨b, off, none⟩) tss.length c0 := (hT 56 1 (by simp) rfl).trans (hd ⟨1, .data⟩ (by simp) rfl)
          have e2 : A.eval (.tmp 57) = .int .i64 k := (hT 57 2 (by simp) rfl).trans (hd ⟨2, .data⟩ (by simp) rfl)
          exact wp_ix (e := 22) rfl (by kernel_rfl) (by kernel_rfl) e1 e2 rfl (by omega) ⟨_, rfl, rfl, Below.refl _ _⟩
        case o4 =>
          refine GdOpL.plain rfl (fun A vs w' hF hT hR hd => ?_)
          have e1 : A.eval (.tmp 58) = .pointer (some ⟨b, off + k, none⟩) := (hT 58 3 (by simp) rfl).trans (hd ⟨3, .data⟩ (by simp) rfl)
          exact wp_ld_slice (e := 5) rfl e1 (by kernel_rfl) ((hR.below.cell (p := ⟨b, off + k, none⟩) (Nat.lt_of_lt_of_le hbl q.size)).trans hcell) ⟨_, rfl, rfl, Below.refl _ _⟩
        case o5 =>
          refine GdOpL.plain rfl (fun A vs w' hF hT hR hd => ?_)
          have e1 : A.eval (.tmp 59) = .slice Ar yt.length C := (hT 59 4 (by simp) rfl).trans (hd ⟨4, .data⟩ (by simp) rfl)
          have hb1 : Below w'.heap.size w' (w'.alloc (.cells #[.slice Ar yt.length C] 22)) := (Below.refl _ _).alloc (Nat.le_refl _) _
          have hrr := (hrd.below (hR.below.mono q.size)).mono (Nat.le_trans q.size hR.below.size)
          exact wp_oneRow ryP rfl e1 ⟨_, rfl, ⟨_, Ar, _, C, rfl, heap_alloc_self _ _, (hrr.below hb1).mono hb1.size⟩, hb1⟩
        case o6 =>
          refine GdOpL.plain rfl (fun A vs w' hF hT hR hd => ?_)
          have e1 : A.eval (.tmp 55) = .agg #[.slice a5 zs.length c5, .int .i64 s] := (hT 55 0 (by simp) rfl).trans (hd ⟨0, .data⟩ (by simp) rfl)
          obtain ⟨b5, A5, L5, C5, q5, hc5, hr5⟩ := (hd ⟨5, .data⟩ (by simp) rfl)
          have e2 : A.eval (.tmp 60) = .slice (some ⟨b5, 0, none⟩) 1 1 := (hT 60 5 (by simp) rfl).trans q5
          refine wp_callFn rfl (enters_of Try.func11 (by kernel_rfl) rfl) (args := #[.agg #[.slice a5 zs.length c5, .int .i64 s], .slice (some ⟨b5, 0, none⟩) 1 1]) (by simp [e1, e2]) ((hC.app w' (r3.below hR.below) hR.below.size (by omega) hs (rows_one hc5 hr5) (Below.refl _ _) (by simp)).mono ?_)
          rintro e w2 hA5
          obtain ⟨a5, k5, c5, rfl, r5, hb2⟩ := app_known HAP.out hA5
          exact ⟨_, rfl, _, rfl, ⟨a5, k5, c5, rfl, r5⟩, hb2⟩
        case o7 =>
          refine GdOpL.plain rfl (fun A vs w' hF hT hR hd => ?_)
          obtain ⟨a5, k5, c5, q5, hr5⟩ := (hd ⟨6, .data⟩ (by simp) rfl)
          exact BigFrame.wp_move _ rfl ⟨_, rfl, ⟨a5, k5, c5, (hT 61 6 (by simp) rfl).trans q5, hr5⟩, Below.refl _ _⟩
        case o8 =>
          refine GdOpL.plain rfl (fun A vs w' hF hT hR hd => ?_)
          obtain ⟨a5, k5, c5, q5, hr5⟩ := (hd ⟨7, .data⟩ (by simp) rfl)
          exact wp_ex rfl ((hT 54 7 (by simp) rfl).trans q5) rfl ⟨_, rfl, ⟨a5, k5, c5, rfl, hr5⟩, Below.refl _ _⟩
        case o9 =>
          refine GdOpL.plain rfl (fun A vs w' hF hT hR hd => ?_)
          obtain ⟨a5, k5, c5, q5, hr5⟩ := (hd ⟨7, .data⟩ (by simp) rfl)
          exact wp_ex rfl ((hT 54 7 (by simp) rfl).trans q5) rfl ⟨_, rfl, rfl, Below.refl _ _⟩
        case o10 =>
          refine GdOpL.plain rfl (fun A vs w' hF hT hR hd => ?_)
          exact wp_allocP logP rfl ⟨_, rfl, ⟨_, rfl, hR.below.size, ⟨_, _, heap_alloc_self _ _, notU8_slice _ _ _, notU8_int _⟩⟩, (Below.refl _ _).alloc (Nat.le_refl _) _⟩
        case o11 =>
          refine GdOpL.plain rfl (fun A vs w' hF hT hR hd => ?_)
          obtain ⟨b5, q5, hb5, u0, v0, hx5, n1, n2⟩ := (hd ⟨10, .data⟩ (by simp) rfl)
          obtain ⟨a5, k5, c5, q6, hr6⟩ := (hd ⟨8, .data⟩ (by simp) rfl)
          have e1 : A.eval (.tmp 13) = .pointer (some ⟨b5, 0, none⟩) := (hT 13 10 (by simp) rfl).trans q5
          have e2 : A.eval (.tmp 62) = .agg #[.slice a5 k5 c5, .int .i64 s] := (hT 62 8 (by simp) rfl).trans q6
          refine wp_storeP logP rfl e1 e2 rfl rfl _ hx5 (fun w2 hg h2 => ?_)
          have hk : BoxK (fun b => wr.heap.size ≤ b) 24 w' w2 := .inr ⟨b5, hb5, hg, ⟨_, _, hx5, n1, n2⟩, ⟨_, _, h2, notU8_slice _ _ _, notU8_int _⟩⟩
          exact ⟨_, rfl, ⟨b5, a5, k5, c5, q5, h2, rd_box_up hr6 hk⟩, hk⟩
        case o12 =>
          refine GdOpL.plain rfl (fun A vs w' hF hT hR hd => ?_)
          exact BigFrame.wp_assign _ rfl ⟨_, rfl, (hT 63 9 (by simp) rfl).trans (hd ⟨9, .data⟩ (by simp) rfl), Below.refl _ _⟩
        case fin =>
          intro vs w' hR hG
          have e0 : vs 0 = .agg #[.slice a5 zs.length c5, .int .i64 s] := hG 0 (by decide)
          have e1 : vs 1 = .slice (some ⟨b, off, none⟩) tss.length c0 := hG 1 (by decide)
          have e2 : vs 2 = .int .i64 k := hG 2 (by decide)
          have e3 : vs 3 = .pointer (some ⟨b, off + k, none⟩) := hG 3 (by decide)
          have e4 : vs 4 = .slice Ar yt.length C := hG 4 (by decide)
          obtain ⟨b5, A5, L5, C5, e5, _, _⟩ := hG 5 (by decide)
          obtain ⟨x6, y6, z6, e6, _⟩ := hG 6 (by decide)
          obtain ⟨x7, y7, z7, e7, _⟩ := hG 7 (by decide)
          obtain ⟨x8, y8, z8, e8, _⟩ := hG 8 (by decide)
          have e9 : vs 9 = .int .i64 0 := hG 9 (by decide)
          obtain ⟨bx, ax, kx, cx, e10, px, rx⟩ := hG 11 (by decide)
          have e12 : vs 12 = .int .i64 0 := hG 12 (by decide)
          simp only [putAll, e0, e1, e2, e3, e4, e5, e6, e7, e8, e9, e10, e12]
          clear hG e0 e1 e2 e3 e4 e5 e6 e7 e8 e9 e10 e12
          go_simp
          replace po := hR.pair po (Nat.not_le.2 po.lt)
          replace q := q.trans (hR.below.mono q.size)
          clear r3 hR hcell hrd
          have pxc0 := px.cell0
          have pxc1 := px.cell1
          have pof0 := po.frozen0
          have pof1 := po.frozen1
          have poc0 := po.cell0
          have poc1 := po.cell1
          go_wp2_with fail
          go_roundw
          case rel => exact ⟨k + 1, ax, kx, cx, _, s, by go_num, by omega, by rw [hts.out, HC.out]; exact HN.out, (po.put0 _).put1 _, rd_set2 rx po (notU8_slice _ _ _) (notU8_int _) (notU8_slice _ _ _), (q.setCell (p := ⟨g, 0, none⟩) hgw _).setCell (p := ⟨g, 1, none⟩) hgw _⟩
          case measure => simp [intOf]; omega
    · obtain rfl : k = tss.length := by omega
      rw [List.take_length] at hL
      by_cases hz : tss.length ≤ z
      · have d4 : decide ((tss.length : Int) ≤ (z : Int)) = true := by simpa using hz
        have hs := hL.i64
        have hzl := hL.len
        have poc0 := po.cell0
        have poc1 := po.cell1
        go_wp2_with fail
        refine (hC.sync _ r3 (Nat.le_refl _) (by omega) hs).mono ?_
        rintro e v5 ⟨a6, k6, c6, rfl, r6, hb⟩
        clear poc0 poc1
        have hL2 := hL.sync
        clear hL
        generalize syncN zs s = s2 at *
        clear hs
        obtain rfl := r6.len.1
        replace po := po.below hb po.lt
        replace q := q.trans (hb.mono q.size)
        clear r3 hb
        have pof0 := po.frozen0
        have pof1 := po.frozen1
        have poc0 := po.cell0
        have poc1 := po.cell1
        have po5 := (po.put0 (.slice a6 zs.length c6)).put1 (.int .i64 s2)
        have r5 := rd_set2 (u := .slice a6 zs.length c6) (z := .int .i64 s2) r6 po (notU8_slice _ _ _) (notU8_int _) (notU8_slice _ _ _)
        have q5 := (q.setCell (p := ⟨g, 0, none⟩) hgw (.slice a6 zs.length c6)).setCell (p := ⟨g, 1, none⟩) hgw (.int .i64 s2)
        go_upto_region 20 with (fail)
        clear pof0 pof1 poc0 poc1 po r6 q
        generalize (v5.setCell ⟨g, 0, none⟩ (.slice a6 zs.length c6)).setCell ⟨g, 1, none⟩ (.int .i64 s2) = W5 at *
        have po := po5
        have r3 := r5
        have q := q5
        clear po5 r5 q5
        have hs := hL2.i64
        have hzl := hL2.len
        have hco := crash_ok (keep := keep) hL2.ok
        obtain ⟨j, hcj, hjn, hLJ⟩ := hL2.crash keep
        have hcl : (crashB zs s2 keep).length ≤ 20000 := hco.1
        have hci := hco.i64
        have hj9 := hLJ.len
        have hlj : (tss.take j).length = j := by rw [List.length_take]; omega
        have HL := Lib.hid hL2
        clear hL2 hco d4 hz
        have poc0 := po.cell0
        have poc1 := po.cell1
        go_wp2_with fail
        refine (hC.crash _ r3 (Nat.le_refl _) (by omega) hs hkeep).mono ?_
        rintro e v6 ⟨a7, k7, c7, rfl, r7, hb⟩
        replace q := q.trans (hb.mono q.size)
        clear hb poc0 poc1 r3 po
        go_wp2_with fail
        refine (hC.trim _ r7 (Nat.le_refl _) (by omega) hci).mono ?_
        rintro e v7 ⟨a8, k8, c8, rfl, rc, hb⟩
        replace q := q.trans (hb.mono q.size)
        clear hb r7 hci hcl
        generalize trimB (crashB zs s2 keep) (crashN zs s2 keep) = cs at *
        generalize trimN (crashB zs s2 keep) (crashN zs s2 keep) = sj at *
        obtain rfl := rc.len.1
        go_upto_region 21 with (fail)
        have pc := PairV.new v7 24 (.slice a8 cs.length c8) (.int .i64 sj)
        have hbx : Below v7.heap.size v7 (v7.alloc (.cells #[.slice a8 cs.length c8, .int .i64 sj] 24)) := (Below.refl _ _).alloc (Nat.le_refl _) _
        replace rc := (rc.below hbx).mono hbx.size
        replace q := q.trans (hbx.mono q.size)
        clear hbx
        generalize v7.alloc (.cells #[.slice a8 cs.length c8, .int .i64 sj] 24) = W7 at *
        have hsj := hLJ.i64
        have pcc0 := pc.cell0
        have pcc1 := pc.cell1
        go_wp2_with fail
        refine (hC.texts _ rc (Nat.le_refl _) (by omega) hsj).mono ?_
        rintro e v21 ⟨at', kt, ct, rfl, hOt, hb⟩
        rw [hLJ.texts] at hOt
        obtain rfl : kt = j := by rw [hOt.len, hlj]
        have rt := hOt.rows
        have hctj := rt.len.2.1
        have qt := Below.refl v21.heap.size v21
        clear hOt
        clear pcc0 pcc1
        replace pc := pc.below hb pc.lt
        replace rc := (rc.below hb).mono hb.size
        replace q := q.trans (hb.mono q.size)
        have dk : decide ((kt : Int) < (tss.length : Int)) = false := by rw [decide_eq_false_iff_not]; omega
        have dn : decide ((tss.length : Int) < (kt : Int)) = false := by rw [decide_eq_false_iff_not]; omega
        have htj := ht.take kt hjn
        go_wp2_with (refine wpList_sliceHi (by kernel_rfl) (by kernel_rfl) rfl rfl rfl rfl ?_ rfl (by omega))
        refine (same_any _ rt qt htj q).mono ?_
        rw [decide_eq_true (show tss.take kt = tss.take kt from rfl)]
        rintro e v8 ⟨rfl, hb⟩
        replace pc := pc.below hb pc.lt
        replace rc := (rc.below hb).mono hb.size
        replace qt := qt.trans (hb.mono qt.size)
        replace q := q.trans (hb.mono q.size)
        clear dk dn hb
        have hmr := (hm.below q).mono q.size
        have pcc0 := pc.cell0
        have pcc1 := pc.cell1
        go_wp2_with (refine wpList_oneRow ryP rfl rfl rfl hmr ?_; intro b1 x1 ht1 hb1r)
        clear hmr pcc0 pcc1
        replace pc := pc.below hb1r pc.lt
        replace rc := (rc.below hb1r).mono hb1r.size
        replace qt := qt.trans (hb1r.mono qt.size)
        replace q := q.trans (hb1r.mono q.size)
        refine (hC.app _ rc (Nat.le_refl _) (by omega) hsj ht1 (Below.refl _ _) (by simp)).mono ?_
        rintro e v22 hA
        obtain ⟨ad, kd, cd, rfl, rd, hb⟩ := app_known (hLJ.app hm300) hA
        clear hA ht1 hb1r
        replace pc := pc.below hb pc.lt
        replace rc := (rc.below hb).mono hb.size
        replace qt := qt.trans (hb.mono qt.size)
        replace q := q.trans (hb.mono q.size)
        have hLD := hLJ.snoc hm300 (by omega)
        generalize cs ++ framesB [ms] = ds at *
        obtain rfl := rd.len.1
        go_upto_region 26 with (fail)
        have pd := PairV.new v22 24 (.slice ad ds.length cd) (.int .i64 sj)
        have hbx : Below v22.heap.size v22 (v22.alloc (.cells #[.slice ad ds.length cd, .int .i64 sj] 24)) := (Below.refl _ _).alloc (Nat.le_refl _) _
        replace pc := pc.alloc (.cells #[.slice ad ds.length cd, .int .i64 sj] 24)
        replace rc := (rc.below hbx).mono hbx.size
        replace rd := (rd.below hbx).mono hbx.size
        replace qt := qt.trans (hbx.mono qt.size)
        replace q := q.trans (hbx.mono q.size)
        clear hbx
        generalize v22.alloc (.cells #[.slice ad ds.length cd, .int .i64 sj] 24) = W8 at *
        have hdl := hLD.len
        have pdc0 := pd.cell0
        have pdc1 := pd.cell1
        go_wp2_with fail
        refine (hC.texts _ rd (Nat.le_refl _) (by omega) hsj).mono ?_
        rintro e v23 ⟨au, ku, cu, rfl, hOu, hb⟩
        rw [hLD.texts] at hOu
        obtain rfl : ku = kt + 1 := by rw [hOu.len, List.length_append, hlj]; rfl
        have ru := hOu.rows
        have hcuj := ru.len.2.1
        have qu := Below.refl v23.heap.size v23
        clear hOu
        clear pdc0 pdc1
        replace pc := pc.below hb pc.lt
        replace pd := pd.below hb pd.lt
        replace rc := (rc.below hb).mono hb.size
        replace rd := (rd.below hb).mono hb.size
        replace qt := qt.trans (hb.mono qt.size)
        replace q := q.trans (hb.mono q.size)
        have hag := Lib.hid (show trimB (crashB cs sj keep) (crashN cs sj keep) = cs ∧ trimN (crashB cs sj keep) (crashN cs sj keep) = sj from (show LogAt (tss.take kt) (tss.take kt).length cs sj by rw [hlj]; exact hLJ).again keep)
        have hcc := crash_ok (keep := keep) hLJ.ok
        have hcc1 : (crashB cs sj keep).length ≤ 1000000 := by have := hcc.1; omega
        have hcc2 := hcc.i64
        clear hcc
        go_upto_region 27 with (fail)
        refine wp_region_gsg (by kernel_rfl) (by kernel_rfl) [sgEq (.agg #[.slice a8 cs.length c8, .int .i64 sj]), sgEq (.int .i64 keep), sgLog (crashB cs sj keep) (crashN cs sj keep), sgLog (cs) (sj), sgEq (.agg #[.slice a8 cs.length c8, .int .i64 sj]), sgEq (.bool true), sgEq (.bool true)]
          ⟨?o0, ?o1, ?o2, ?o3, ?o4, ?o5, ?o6, trivial⟩ ?fin
        case o0 =>
          refine GdOp.plain rfl (fun A vs w' hF hT hb hd => ?_)
          have e1 : A.eval (.tmp 15) = .pointer (some ⟨v7.heap.size, 0, none⟩) := hF 15 rfl
          exact wp_loadP logP rfl e1 (pc.below hb pc.lt).cell0 (pc.below hb pc.lt).cell1 ⟨_, rfl, rfl, Below.refl _ _⟩
        case o1 =>
          refine GdOp.plain rfl (fun A vs w' hF hT hb hd => ?_)
          have e1 : A.eval (.tmp 2) = .int .i64 keep := hF 2 rfl
          exact BigFrame.wp_move _ rfl ⟨_, rfl, e1, Below.refl _ _⟩
        case o2 =>
          refine GdOp.plain rfl (fun A vs w' hF hT hb hd => ?_)
          have e1 : A.eval (.tmp 107) = .agg #[.slice a8 cs.length c8, .int .i64 sj] := (hT 107 0 (by simp) rfl).trans (hd ⟨0, .data⟩ (by simp) rfl)
          have e2 : A.eval (.tmp 108) = .int .i64 keep := (hT 108 1 (by simp) rfl).trans (hd ⟨1, .data⟩ (by simp) rfl)
          refine wp_callFn rfl (enters_of Try.func16 (by kernel_rfl) rfl) (args := #[.agg #[.slice a8 cs.length c8, .int .i64 sj], .int .i64 keep]) (by simp [e1, e2]) ((hC.crash w' (rc.below hb) hb.size (by omega) hsj hkeep).mono ?_)
          rintro e w2 ⟨a5, k5, c5, rfl, r5, hb2⟩
          exact ⟨_, rfl, _, rfl, ⟨a5, k5, c5, rfl, r5⟩, hb2⟩
        case o3 =>
          refine GdOp.plain rfl (fun A vs w' hF hT hb hd => ?_)
          obtain ⟨ad1, kk1, cc1, qq1, hr1⟩ := hd ⟨2, .data⟩ (by simp) rfl
          have e1 : A.eval (.tmp 109) = .agg #[.slice ad1 kk1 cc1, .int .i64 (crashN cs sj keep)] := (hT 109 2 (by simp) rfl).trans qq1
          refine wp_callFn rfl (enters_of Try.func18 (by kernel_rfl) rfl) (args := #[.agg #[.slice ad1 kk1 cc1, .int .i64 (crashN cs sj keep)]]) (by simp [e1]) ((hC.trim w' hr1 (Nat.le_refl _) hcc1 hcc2).mono ?_)
          rintro e w2 ⟨a5, k5, c5, rfl, r5, hb2⟩
          rw [hag.out.1] at r5
          exact ⟨_, rfl, _, rfl, ⟨a5, k5, c5, by rw [hag.out.2], r5⟩, hb2⟩
        case o4 =>
          refine GdOp.plain rfl (fun A vs w' hF hT hb hd => ?_)
          have e1 : A.eval (.tmp 15) = .pointer (some ⟨v7.heap.size, 0, none⟩) := hF 15 rfl
          exact wp_loadP logP rfl e1 (pc.below hb pc.lt).cell0 (pc.below hb pc.lt).cell1 ⟨_, rfl, rfl, Below.refl _ _⟩
        case o5 =>
          refine GdOp.plain rfl (fun A vs w' hF hT hb hd => ?_)
          obtain ⟨ad1, kk1, cc1, qq1, hr1⟩ := hd ⟨3, .data⟩ (by simp) rfl
          have e1 : A.eval (.tmp 110) = .agg #[.slice ad1 kk1 cc1, .int .i64 (sj)] := (hT 110 3 (by simp) rfl).trans qq1
          have e2 : A.eval (.tmp 111) = .agg #[.slice a8 cs.length c8, .int .i64 sj] := (hT 111 4 (by simp) rfl).trans (hd ⟨4, .data⟩ (by simp) rfl)
          refine wp_callFn rfl (enters_of Try.func13 (by kernel_rfl) rfl) (args := #[.agg #[.slice ad1 kk1 cc1, .int .i64 (sj)], .agg #[.slice a8 cs.length c8, .int .i64 sj]]) (by simp [e1, e2]) ((refSameL_any w' hr1 (Nat.le_refl _) (rc.below hb) hb.size).mono ?_)
          rintro e w2 ⟨rfl, hb2⟩
          exact ⟨_, rfl, _, rfl, congrArg Value.bool (decide_eq_true ⟨rfl, rfl⟩), hb2⟩
        case o6 =>
          refine GdOp.plain rfl (fun A vs w' hF hT hb hd => ?_)
          have e1 : A.eval (.tmp 112) = .bool true := (hT 112 5 (by simp) rfl).trans (hd ⟨5, .data⟩ (by simp) rfl)
          exact BigFrame.wp_assign _ rfl ⟨_, rfl, e1, Below.refl _ _⟩
        case fin =>
          intro vs w' hb hG
          have e0 : vs 0 = .agg #[.slice a8 cs.length c8, .int .i64 sj] := hG 0 (by decide)
          have e1 : vs 1 = .int .i64 keep := hG 1 (by decide)
          obtain ⟨x2, y2, z2, e2, _⟩ := hG 2 (by decide)
          obtain ⟨x3, y3, z3, e3, _⟩ := hG 3 (by decide)
          have e4 : vs 4 = .agg #[.slice a8 cs.length c8, .int .i64 sj] := hG 4 (by decide)
          have e5 : vs 5 = .bool true := hG 5 (by decide)
          have e6 : vs 6 = .bool true := hG 6 (by decide)
          simp only [putAll, e0, e1, e2, e3, e4, e5, e6]
          clear hG e0 e1 e2 e3 e4 e5 e6
          replace pc := pc.below hb pc.lt
          replace pd := pd.below hb pd.lt
          replace rc := (rc.below hb).mono hb.size
          replace rd := (rd.below hb).mono hb.size
          replace qt := qt.trans (hb.mono qt.size)
          replace qu := qu.trans (hb.mono qu.size)
          replace q := q.trans (hb.mono q.size)
          clear hb
          go_simp
          go_upto_region 28 with (fail)
          obtain ⟨b2, off2, Au, Lu, Cu, rfl, hbl2, hcell2, hrd2⟩ := ru.at qu kt (by rw [List.length_append, hlj]; exact Nat.lt_succ_self _)
          rw [show (tss.take kt ++ [ms])[kt]'(by rw [List.length_append, hlj]; exact Nat.lt_succ_self _) = ms by rw [List.getElem_append_right (by omega)]; simp [hlj]] at hrd2
          have rut := ru.take kt (by rw [List.length_append, hlj]; exact Nat.le_succ _)
          rw [List.take_append_of_le_length (by omega), List.take_of_length_le (by omega)] at rut
          refine wp_region_gsa (by kernel_rfl) (by kernel_rfl) [sgEq (.bool true), sgEq (.bool true), sgEq (.bool true), sgEq (.bool true), sgEq (.bool true), sgEq (.int .i64 0), sgEq (.bool true), sgEq (.bool true), sgEq (.bool true), sgEq (.slice (some ⟨b2, off2, none⟩) (kt + 1) cu), sgEq (.int .i64 (kt + 1 : Nat)), sgEq (.slice at' kt ct), sgEq (.int .i64 kt), sgEq (.int .i64 (kt + 1)), sgEq (.bool true), sgEq (.bool true), sgEq (.bool true), sgEq (.slice (some ⟨b2, off2, none⟩) (kt + 1) cu), sgEq (.slice at' kt ct), sgEq (.int .i64 kt), sgEq (.slice (some ⟨b2, off2, none⟩) kt cu), sgEq (.slice at' kt ct), sgEq (.bool true), sgEq (.bool true), sgEq (.bool true), sgEq (.slice (some ⟨b2, off2, none⟩) (kt + 1) cu), sgEq (.slice at' kt ct), sgEq (.int .i64 kt), sgEq (.pointer (some ⟨b2, off2 + kt, none⟩)), sgEq (.slice Au Lu Cu), sgEq (.string (strOf ms)), sgEq (.slice a3 ms.length c3), sgEq (.string (strOf ms)), sgEq (.bool true), sgEq (.bool true), sgEq (.bool true), sgEq (.bool true), sgEq (.bool true), sgEq (.bool true)]
            ⟨?o0, ?o1, ?o2, ?o3, ?o4, ?o5, ?o6, ?o7, ?o8, ?o9, ?o10, ?o11, ?o12, ?o13, ?o14, ?o15, ?o16, ?o17, ?o18, ?o19, ?o20, ?o21, ?o22, ?o23, ?o24, ?o25, ?o26, ?o27, ?o28, ?o29, ?o30, ?o31, ?o32, ?o33, ?o34, ?o35, ?o36, ?o37, ?o38, trivial⟩ ?fin
          case o0 =>
            refine GdOp.plain rfl (fun A vs w' hF hT hb hd => ?_)
            have e1 : A.eval (.tmp 9) = .bool true := hF 9 rfl
            exact BigFrame.wp_move _ rfl ⟨_, rfl, e1, Below.refl _ _⟩
          case o1 =>
            refine GdOp.plain rfl (fun A vs w' hF hT hb hd => ?_)
            have e1 : A.eval (.tmp 113) = .bool true := (hT 113 0 (by simp) rfl).trans (hd ⟨0, .data⟩ (by simp) rfl)
            exact BigFrame.wp_move _ rfl ⟨_, rfl, e1, Below.refl _ _⟩
          case o2 =>
            refine GdOp.taken rfl ⟨_, _, rfl, rfl, by simp⟩ (by kernel_rfl) (fun w v h => h) (fun A vs w' hF hT hb hd => ?_)
            have e1 : A.eval (.tmp 17) = .bool true := hF 17 rfl
            exact BigFrame.wp_move _ rfl ⟨_, rfl, e1, Below.refl _ _⟩
          case o3 =>
            refine GdOp.plain rfl (fun A vs w' hF hT hb hd => ?_)
            have e1 : A.eval (.tmp 114) = .bool true := (hT 114 1 (by simp) rfl).trans (hd ⟨1, .data⟩ (by simp) rfl)
            have e2 : A.eval (.tmp 115) = .bool true := (hT 115 2 (by simp) rfl).trans (hd ⟨2, .data⟩ (by simp) rfl)
            exact wp_pk rfl e1 (fun _ => e2) (by simp) ⟨_, rfl, rfl, Below.refl _ _⟩
          case o4 =>
            refine GdOp.plain rfl (fun A vs w' hF hT hb hd => ?_)
            have e1 : A.eval (.tmp 116) = .bool true := (hT 116 3 (by simp) rfl).trans (hd ⟨3, .data⟩ (by simp) rfl)
            exact BigFrame.wp_move _ rfl ⟨_, rfl, e1, Below.refl _ _⟩
          case o5 =>
            refine GdOp.taken rfl ⟨_, _, rfl, rfl, by simp⟩ (by kernel_rfl) (fun w v h => h) (fun A vs w' hF hT hb hd => ?_)
            have e1 : A.eval (.tmp 19) = .int .i64 0 := hF 19 rfl
            exact BigFrame.wp_move _ rfl ⟨_, rfl, e1, Below.refl _ _⟩
          case o6 =>
            refine GdOp.taken rfl ⟨_, _, rfl, rfl, by simp⟩ (by kernel_rfl) (fun w v h => h) (fun A vs w' hF hT hb hd => ?_)
            have e1 : A.eval (.tmp 118) = .int .i64 0 := (hT 118 5 (by simp) rfl).trans (hd ⟨5, .data⟩ (by simp) rfl)
            exact wp_eqlI rfl e1 rfl ⟨_, rfl, congrArg Value.bool (by simp), Below.refl _ _⟩
          case o7 =>
            refine GdOp.plain rfl (fun A vs w' hF hT hb hd => ?_)
            have e1 : A.eval (.tmp 117) = .bool true := (hT 117 4 (by simp) rfl).trans (hd ⟨4, .data⟩ (by simp) rfl)
            have e2 : A.eval (.tmp 119) = .bool true := (hT 119 6 (by simp) rfl).trans (hd ⟨6, .data⟩ (by simp) rfl)
            exact wp_pk rfl e1 (fun _ => e2) (by simp) ⟨_, rfl, rfl, Below.refl _ _⟩
          case o8 =>
            refine GdOp.plain rfl (fun A vs w' hF hT hb hd => ?_)
            have e1 : A.eval (.tmp 120) = .bool true := (hT 120 7 (by simp) rfl).trans (hd ⟨7, .data⟩ (by simp) rfl)
            exact BigFrame.wp_move _ rfl ⟨_, rfl, e1, Below.refl _ _⟩
          case o9 =>
            refine GdOp.taken rfl ⟨_, _, rfl, rfl, by simp⟩ (by kernel_rfl) (fun w v h => h) (fun A vs w' hF hT hb hd => ?_)
            have e1 : A.eval (.tmp 20) = .slice (some ⟨b2, off2, none⟩) (kt + 1) cu := hF 20 rfl
            exact BigFrame.wp_move _ rfl ⟨_, rfl, e1, Below.refl _ _⟩
          case o10 =>
            refine GdOp.taken rfl ⟨_, _, rfl, rfl, by simp⟩ (by kernel_rfl) (fun w v h => h) (fun A vs w' hF hT hb hd => ?_)
            have e1 : A.eval (.tmp 122) = .slice (some ⟨b2, off2, none⟩) (kt + 1) cu := (hT 122 9 (by simp) rfl).trans (hd ⟨9, .data⟩ (by simp) rfl)
            exact wp_lenS (e := 22) rfl (by kernel_rfl) e1 ⟨_, rfl, rfl, Below.refl _ _⟩
          case o11 =>
            refine GdOp.taken rfl ⟨_, _, rfl, rfl, by simp⟩ (by kernel_rfl) (fun w v h => h) (fun A vs w' hF hT hb hd => ?_)
            have e1 : A.eval (.tmp 16) = .slice at' kt ct := hF 16 rfl
            exact BigFrame.wp_move _ rfl ⟨_, rfl, e1, Below.refl _ _⟩
          case o12 =>
            refine GdOp.taken rfl ⟨_, _, rfl, rfl, by simp⟩ (by kernel_rfl) (fun w v h => h) (fun A vs w' hF hT hb hd => ?_)
            have e1 : A.eval (.tmp 124) = .slice at' kt ct := (hT 124 11 (by simp) rfl).trans (hd ⟨11, .data⟩ (by simp) rfl)
            exact wp_lenS (e := 22) rfl (by kernel_rfl) e1 ⟨_, rfl, rfl, Below.refl _ _⟩
          case o13 =>
            refine GdOp.taken rfl ⟨_, _, rfl, rfl, by simp⟩ (by kernel_rfl) (fun w v h => h) (fun A vs w' hF hT hb hd => ?_)
            have e1 : A.eval (.tmp 125) = .int .i64 kt := (hT 125 12 (by simp) rfl).trans (hd ⟨12, .data⟩ (by simp) rfl)
            exact wp_addI rfl e1 rfl (by omega) (by omega) ⟨_, rfl, rfl, Below.refl _ _⟩
          case o14 =>
            refine GdOp.taken rfl ⟨_, _, rfl, rfl, by simp⟩ (by kernel_rfl) (fun w v h => h) (fun A vs w' hF hT hb hd => ?_)
            have e1 : A.eval (.tmp 123) = .int .i64 (kt + 1 : Nat) := (hT 123 10 (by simp) rfl).trans (hd ⟨10, .data⟩ (by simp) rfl)
            have e2 : A.eval (.tmp 126) = .int .i64 (kt + 1) := (hT 126 13 (by simp) rfl).trans (hd ⟨13, .data⟩ (by simp) rfl)
            exact wp_eqlI rfl e1 e2 ⟨_, rfl, congrArg Value.bool (by simp), Below.refl _ _⟩
          case o15 =>
            refine GdOp.plain rfl (fun A vs w' hF hT hb hd => ?_)
            have e1 : A.eval (.tmp 121) = .bool true := (hT 121 8 (by simp) rfl).trans (hd ⟨8, .data⟩ (by simp) rfl)
            have e2 : A.eval (.tmp 127) = .bool true := (hT 127 14 (by simp) rfl).trans (hd ⟨14, .data⟩ (by simp) rfl)
            exact wp_pk rfl e1 (fun _ => e2) (by simp) ⟨_, rfl, rfl, Below.refl _ _⟩
          case o16 =>
            refine GdOp.plain rfl (fun A vs w' hF hT hb hd => ?_)
            have e1 : A.eval (.tmp 128) = .bool true := (hT 128 15 (by simp) rfl).trans (hd ⟨15, .data⟩ (by simp) rfl)
            exact BigFrame.wp_move _ rfl ⟨_, rfl, e1, Below.refl _ _⟩
          case o17 =>
            refine GdOp.taken rfl ⟨_, _, rfl, rfl, by simp⟩ (by kernel_rfl) (fun w v h => h) (fun A vs w' hF hT hb hd => ?_)
            have e1 : A.eval (.tmp 20) = .slice (some ⟨b2, off2, none⟩) (kt + 1) cu := hF 20 rfl
            exact BigFrame.wp_move _ rfl ⟨_, rfl, e1, Below.refl _ _⟩
          case o18 =>
            refine GdOp.taken rfl ⟨_, _, rfl, rfl, by simp⟩ (by kernel_rfl) (fun w v h => h) (fun A vs w' hF hT hb hd => ?_)
            have e1 : A.eval (.tmp 16) = .slice at' kt ct := hF 16 rfl
            exact BigFrame.wp_move _ rfl ⟨_, rfl, e1, Below.refl _ _⟩
          case o19 =>
            refine GdOp.taken rfl ⟨_, _, rfl, rfl, by simp⟩ (by kernel_rfl) (fun w v h => h) (fun A vs w' hF hT hb hd => ?_)
            have e1 : A.eval (.tmp 131) = .slice at' kt ct := (hT 131 18 (by simp) rfl).trans (hd ⟨18, .data⟩ (by simp) rfl)
            exact wp_lenS (e := 22) rfl (by kernel_rfl) e1 ⟨_, rfl, rfl, Below.refl _ _⟩
          case o20 =>
            refine GdOp.taken rfl ⟨_, _, rfl, rfl, by simp⟩ (by kernel_rfl) (fun w v h => h) (fun A vs w' hF hT hb hd => ?_)
            have e1 : A.eval (.tmp 130) = .slice (some ⟨b2, off2, none⟩) (kt + 1) cu := (hT 130 17 (by simp) rfl).trans (hd ⟨17, .data⟩ (by simp) rfl)
            have e2 : A.eval (.tmp 132) = .int .i64 kt := (hT 132 19 (by simp) rfl).trans (hd ⟨19, .data⟩ (by simp) rfl)
            exact wp_sliceHi (E := 22) (by kernel_rfl) (by kernel_rfl) rfl e1 e2 ⟨_, rfl, rfl, Below.refl _ _⟩ rfl (by omega)
          case o21 =>
            refine GdOp.taken rfl ⟨_, _, rfl, rfl, by simp⟩ (by kernel_rfl) (fun w v h => h) (fun A vs w' hF hT hb hd => ?_)
            have e1 : A.eval (.tmp 16) = .slice at' kt ct := hF 16 rfl
            exact BigFrame.wp_move _ rfl ⟨_, rfl, e1, Below.refl _ _⟩
          case o22 =>
            refine GdOp.taken rfl ⟨_, _, rfl, rfl, by simp⟩ (by kernel_rfl) (fun w v h => h) (fun A vs w' hF hT hb hd => ?_)
            have e1 : A.eval (.tmp 133) = .slice (some ⟨b2, off2, none⟩) kt cu := (hT 133 20 (by simp) rfl).trans (hd ⟨20, .data⟩ (by simp) rfl)
            have e2 : A.eval (.tmp 134) = .slice at' kt ct := (hT 134 21 (by simp) rfl).trans (hd ⟨21, .data⟩ (by simp) rfl)
            refine wp_callFn rfl (enters_of Try.func20 (by kernel_rfl) rfl) (args := #[.slice (some ⟨b2, off2, none⟩) kt cu, .slice at' kt ct]) (by simp [e1, e2]) ((same_any w' rut (qu.trans (hb.mono qu.size)) rt (qt.trans (hb.mono qt.size))).mono ?_)
            rintro e w2 ⟨rfl, hb2⟩
            exact ⟨_, rfl, _, rfl, congrArg Value.bool (decide_eq_true rfl), hb2⟩
          case o23 =>
            refine GdOp.plain rfl (fun A vs w' hF hT hb hd => ?_)
            have e1 : A.eval (.tmp 129) = .bool true := (hT 129 16 (by simp) rfl).trans (hd ⟨16, .data⟩ (by simp) rfl)
            have e2 : A.eval (.tmp 135) = .bool true := (hT 135 22 (by simp) rfl).trans (hd ⟨22, .data⟩ (by simp) rfl)
            exact wp_pk rfl e1 (fun _ => e2) (by simp) ⟨_, rfl, rfl, Below.refl _ _⟩
          case o24 =>
            refine GdOp.plain rfl (fun A vs w' hF hT hb hd => ?_)
            have e1 : A.eval (.tmp 136) = .bool true := (hT 136 23 (by simp) rfl).trans (hd ⟨23, .data⟩ (by simp) rfl)
            exact BigFrame.wp_move _ rfl ⟨_, rfl, e1, Below.refl _ _⟩
          case o25 =>
            refine GdOp.taken rfl ⟨_, _, rfl, rfl, by simp⟩ (by kernel_rfl) (fun w v h => h) (fun A vs w' hF hT hb hd => ?_)
            have e1 : A.eval (.tmp 20) = .slice (some ⟨b2, off2, none⟩) (kt + 1) cu := hF 20 rfl
            exact BigFrame.wp_move _ rfl ⟨_, rfl, e1, Below.refl _ _⟩
          case o26 =>
            refine GdOp.taken rfl ⟨_, _, rfl, rfl, by simp⟩ (by kernel_rfl) (fun w v h => h) (fun A vs w' hF hT hb hd => ?_)
            have e1 : A.eval (.tmp 16) = .slice at' kt ct := hF 16 rfl
            exact BigFrame.wp_move _ rfl ⟨_, rfl, e1, Below.refl _ _⟩
          case o27 =>
            refine GdOp.taken rfl ⟨_, _, rfl, rfl, by simp⟩ (by kernel_rfl) (fun w v h => h) (fun A vs w' hF hT hb hd => ?_)
            have e1 : A.eval (.tmp 139) = .slice at' kt ct := (hT 139 26 (by simp) rfl).trans (hd ⟨26, .data⟩ (by simp) rfl)
            exact wp_lenS (e := 22) rfl (by kernel_rfl) e1 ⟨_, rfl, rfl, Below.refl _ _⟩
          case o28 =>
            refine GdOp.taken rfl ⟨_, _, rfl, rfl, by simp⟩ (by kernel_rfl) (fun w v h => h) (fun A vs w' hF hT hb hd => ?_)
            have e1 : A.eval (.tmp 138) = .slice (some ⟨b2, off2, none⟩) (kt + 1) cu := (hT 138 25 (by simp) rfl).trans (hd ⟨25, .data⟩ (by simp) rfl)
            have e2 : A.eval (.tmp 140) = .int .i64 kt := (hT 140 27 (by simp) rfl).trans (hd ⟨27, .data⟩ (by simp) rfl)
            exact wp_ix (e := 22) rfl (by kernel_rfl) (by kernel_rfl) e1 e2 rfl (by omega) ⟨_, rfl, rfl, Below.refl _ _⟩
          case o29 =>
            refine GdOp.taken rfl ⟨_, _, rfl, rfl, by simp⟩ (by kernel_rfl) (fun w v h => h) (fun A vs w' hF hT hb hd => ?_)
            have e1 : A.eval (.tmp 141) = .pointer (some ⟨b2, off2 + kt, none⟩) := (hT 141 28 (by simp) rfl).trans (hd ⟨28, .data⟩ (by simp) rfl)
            exact wp_ld_slice (e := 5) rfl e1 (by kernel_rfl) ((hb.cell (p := ⟨b2, off2 + kt, none⟩) (Nat.lt_of_lt_of_le hbl2 qu.size)).trans hcell2) ⟨_, rfl, rfl, Below.refl _ _⟩
          case o30 =>
            refine GdOp.taken rfl ⟨_, _, rfl, rfl, by simp⟩ (by kernel_rfl) (fun w v h => h) (fun A vs w' hF hT hb hd => ?_)
            have e1 : A.eval (.tmp 142) = .slice Au Lu Cu := (hT 142 29 (by simp) rfl).trans (hd ⟨29, .data⟩ (by simp) rfl)
            exact wp_conv byP rfl e1 (hrd2.below (hb.mono qu.size)) ⟨_, rfl, rfl, Below.refl _ _⟩
          case o31 =>
            refine GdOp.taken rfl ⟨_, _, rfl, rfl, by simp⟩ (by kernel_rfl) (fun w v h => h) (fun A vs w' hF hT hb hd => ?_)
            have e1 : A.eval (.tmp 3) = .slice a3 ms.length c3 := hF 3 rfl
            exact BigFrame.wp_move _ rfl ⟨_, rfl, e1, Below.refl _ _⟩
          case o32 =>
            refine GdOp.taken rfl ⟨_, _, rfl, rfl, by simp⟩ (by kernel_rfl) (fun w v h => h) (fun A vs w' hF hT hb hd => ?_)
            have e1 : A.eval (.tmp 144) = .slice a3 ms.length c3 := (hT 144 31 (by simp) rfl).trans (hd ⟨31, .data⟩ (by simp) rfl)
            exact wp_conv byP rfl e1 (hm.below (q.trans (hb.mono q.size))) ⟨_, rfl, rfl, Below.refl _ _⟩
          case o33 =>
            refine GdOp.taken rfl ⟨_, _, rfl, rfl, by simp⟩ (by kernel_rfl) (fun w v h => h) (fun A vs w' hF hT hb hd => ?_)
            have e1 : A.eval (.tmp 143) = .string (strOf ms) := (hT 143 30 (by simp) rfl).trans (hd ⟨30, .data⟩ (by simp) rfl)
            have e2 : A.eval (.tmp 145) = .string (strOf ms) := (hT 145 32 (by simp) rfl).trans (hd ⟨32, .data⟩ (by simp) rfl)
            exact wp_eqlS rfl e1 e2 ⟨_, rfl, congrArg Value.bool (by simp), Below.refl _ _⟩
          case o34 =>
            refine GdOp.plain rfl (fun A vs w' hF hT hb hd => ?_)
            have e1 : A.eval (.tmp 137) = .bool true := (hT 137 24 (by simp) rfl).trans (hd ⟨24, .data⟩ (by simp) rfl)
            have e2 : A.eval (.tmp 146) = .bool true := (hT 146 33 (by simp) rfl).trans (hd ⟨33, .data⟩ (by simp) rfl)
            exact wp_pk rfl e1 (fun _ => e2) (by simp) ⟨_, rfl, rfl, Below.refl _ _⟩
          case o35 =>
            refine GdOp.plain rfl (fun A vs w' hF hT hb hd => ?_)
            have e1 : A.eval (.tmp 147) = .bool true := (hT 147 34 (by simp) rfl).trans (hd ⟨34, .data⟩ (by simp) rfl)
            exact BigFrame.wp_move _ rfl ⟨_, rfl, e1, Below.refl _ _⟩
          case o36 =>
            refine GdOp.taken rfl ⟨_, _, rfl, rfl, by simp⟩ (by kernel_rfl) (fun w v h => h) (fun A vs w' hF hT hb hd => ?_)
            have e1 : A.eval (.tmp 21) = .bool true := hF 21 rfl
            exact BigFrame.wp_move _ rfl ⟨_, rfl, e1, Below.refl _ _⟩
          case o37 =>
            refine GdOp.plain rfl (fun A vs w' hF hT hb hd => ?_)
            have e1 : A.eval (.tmp 148) = .bool true := (hT 148 35 (by simp) rfl).trans (hd ⟨35, .data⟩ (by simp) rfl)
            have e2 : A.eval (.tmp 149) = .bool true := (hT 149 36 (by simp) rfl).trans (hd ⟨36, .data⟩ (by simp) rfl)
            exact wp_pk rfl e1 (fun _ => e2) (by simp) ⟨_, rfl, rfl, Below.refl _ _⟩
          case o38 =>
            refine GdOp.plain rfl (fun A vs w' hF hT hb hd => ?_)
            have e1 : A.eval (.tmp 150) = .bool true := (hT 150 37 (by simp) rfl).trans (hd ⟨37, .data⟩ (by simp) rfl)
            exact BigFrame.wp_assign _ rfl ⟨_, rfl, e1, Below.refl _ _⟩
          case fin =>
            intro A vs w' hA hb hG
            have e8 : A.eval (.tmp 8) = .bool true := (hA.2.2.2 8 38 (by simp) rfl).trans (hG 38 (by decide))
            have hd : A.defers = [] := hA.1
            clear hG hA
            go_wp2
            refine bodyPost_ret (v := .bool true) ?_ hd ⟨rfl, q.trans (hb.mono q.size)⟩
            rw [← e8]
            exact results_tmp rfl _ _ _
      · have d4 : decide ((tss.length : Int) ≤ (z : Int)) = false := by simpa using hz
        have hcz : cAt z tss.length = z := by unfold cAt; rw [if_pos (by omega)]
        rw [hcz] at hL
        clear hcz
        go_upto_region 20 with (fail)
        have hs := hL.i64
        have hzl := hL.len
        have hco := crash_ok (keep := keep) hL.ok
        obtain ⟨j, hcj, hjn, hLJ⟩ := hL.crash keep
        have hcl : (crashB zs s keep).length ≤ 20000 := hco.1
        have hci := hco.i64
        have hj9 := hLJ.len
        have hlj : (tss.take j).length = j := by rw [List.length_take]; omega
        have HL := Lib.hid hL
        clear hL hco d4 hz
        have poc0 := po.cell0
        have poc1 := po.cell1
        go_wp2_with fail
        refine (hC.crash _ r3 (Nat.le_refl _) (by omega) hs hkeep).mono ?_
        rintro e v6 ⟨a7, k7, c7, rfl, r7, hb⟩
        replace q := q.trans (hb.mono q.size)
        clear hb poc0 poc1 r3 po
        go_wp2_with fail
        refine (hC.trim _ r7 (Nat.le_refl _) (by omega) hci).mono ?_
        rintro e v7 ⟨a8, k8, c8, rfl, rc, hb⟩
        replace q := q.trans (hb.mono q.size)
        clear hb r7 hci hcl
        generalize trimB (crashB zs s keep) (crashN zs s keep) = cs at *
        generalize trimN (crashB zs s keep) (crashN zs s keep) = sj at *
        obtain rfl := rc.len.1
        go_upto_region 21 with (fail)
        have pc := PairV.new v7 24 (.slice a8 cs.length c8) (.int .i64 sj)
        have hbx : Below v7.heap.size v7 (v7.alloc (.cells #[.slice a8 cs.length c8, .int .i64 sj] 24)) := (Below.refl _ _).alloc (Nat.le_refl _) _
        replace rc := (rc.below hbx).mono hbx.size
        replace q := q.trans (hbx.mono q.size)
        clear hbx
        generalize v7.alloc (.cells #[.slice a8 cs.length c8, .int .i64 sj] 24) = W7 at *
        have hsj := hLJ.i64
        have pcc0 := pc.cell0
        have pcc1 := pc.cell1
        go_wp2_with fail
        refine (hC.texts _ rc (Nat.le_refl _) (by omega) hsj).mono ?_
        rintro e v21 ⟨at', kt, ct, rfl, hOt, hb⟩
        rw [hLJ.texts] at hOt
        obtain rfl : kt = j := by rw [hOt.len, hlj]
        have rt := hOt.rows
        have hctj := rt.len.2.1
        have qt := Below.refl v21.heap.size v21
        clear hOt
        clear pcc0 pcc1
        replace pc := pc.below hb pc.lt
        replace rc := (rc.below hb).mono hb.size
        replace q := q.trans (hb.mono q.size)
        have dk : decide ((kt : Int) < (z : Int)) = false := by rw [decide_eq_false_iff_not]; omega
        have dn : decide ((tss.length : Int) < (kt : Int)) = false := by rw [decide_eq_false_iff_not]; omega
        have htj := ht.take kt hjn
        go_wp2_with (refine wpList_sliceHi (by kernel_rfl) (by kernel_rfl) rfl rfl rfl rfl ?_ rfl (by omega))
        refine (same_any _ rt qt htj q).mono ?_
        rw [decide_eq_true (show tss.take kt = tss.take kt from rfl)]
        rintro e v8 ⟨rfl, hb⟩
        replace pc := pc.below hb pc.lt
        replace rc := (rc.below hb).mono hb.size
        replace qt := qt.trans (hb.mono qt.size)
        replace q := q.trans (hb.mono q.size)
        clear dk dn hb
        have hmr := (hm.below q).mono q.size
        have pcc0 := pc.cell0
        have pcc1 := pc.cell1
        go_wp2_with (refine wpList_oneRow ryP rfl rfl rfl hmr ?_; intro b1 x1 ht1 hb1r)
        clear hmr pcc0 pcc1
        replace pc := pc.below hb1r pc.lt
        replace rc := (rc.below hb1r).mono hb1r.size
        replace qt := qt.trans (hb1r.mono qt.size)
        replace q := q.trans (hb1r.mono q.size)
        refine (hC.app _ rc (Nat.le_refl _) (by omega) hsj ht1 (Below.refl _ _) (by simp)).mono ?_
        rintro e v22 hA
        obtain ⟨ad, kd, cd, rfl, rd, hb⟩ := app_known (hLJ.app hm300) hA
        clear hA ht1 hb1r
        replace pc := pc.below hb pc.lt
        replace rc := (rc.below hb).mono hb.size
        replace qt := qt.trans (hb.mono qt.size)
        replace q := q.trans (hb.mono q.size)
        have hLD := hLJ.snoc hm300 (by omega)
        generalize cs ++ framesB [ms] = ds at *
        obtain rfl := rd.len.1
        go_upto_region 26 with (fail)
        have pd := PairV.new v22 24 (.slice ad ds.length cd) (.int .i64 sj)
        have hbx : Below v22.heap.size v22 (v22.alloc (.cells #[.slice ad ds.length cd, .int .i64 sj] 24)) := (Below.refl _ _).alloc (Nat.le_refl _) _
        replace pc := pc.alloc (.cells #[.slice ad ds.length cd, .int .i64 sj] 24)
        replace rc := (rc.below hbx).mono hbx.size
        replace rd := (rd.below hbx).mono hbx.size
        replace qt := qt.trans (hbx.mono qt.size)
        replace q := q.trans (hbx.mono q.size)
        clear hbx
        generalize v22.alloc (.cells #[.slice ad ds.length cd, .int .i64 sj] 24) = W8 at *
        have hdl := hLD.len
        have pdc0 := pd.cell0
        have pdc1 := pd.cell1
        go_wp2_with fail
        refine (hC.texts _ rd (Nat.le_refl _) (by omega) hsj).mono ?_
        rintro e v23 ⟨au, ku, cu, rfl, hOu, hb⟩
        rw [hLD.texts] at hOu
        obtain rfl : ku = kt + 1 := by rw [hOu.len, List.length_append, hlj]; rfl
        have ru := hOu.rows
        have hcuj := ru.len.2.1
        have qu := Below.refl v23.heap.size v23
        clear hOu
        clear pdc0 pdc1
        replace pc := pc.below hb pc.lt
        replace pd := pd.below hb pd.lt
        replace rc := (rc.below hb).mono hb.size
        replace rd := (rd.below hb).mono hb.size
        replace qt := qt.trans (hb.mono qt.size)
        replace q := q.trans (hb.mono q.size)
        have hag := Lib.hid (show trimB (crashB cs sj keep) (crashN cs sj keep) = cs ∧ trimN (crashB cs sj keep) (crashN cs sj keep) = sj from (show LogAt (tss.take kt) (tss.take kt).length cs sj by rw [hlj]; exact hLJ).again keep)
        have hcc := crash_ok (keep := keep) hLJ.ok
        have hcc1 : (crashB cs sj keep).length ≤ 1000000 := by have := hcc.1; omega
        have hcc2 := hcc.i64
        clear hcc
        go_upto_region 27 with (fail)
        refine wp_region_gsg (by kernel_rfl) (by kernel_rfl) [sgEq (.agg #[.slice a8 cs.length c8, .int .i64 sj]), sgEq (.int .i64 keep), sgLog (crashB cs sj keep) (crashN cs sj keep), sgLog (cs) (sj), sgEq (.agg #[.slice a8 cs.length c8, .int .i64 sj]), sgEq (.bool true), sgEq (.bool true)]
          ⟨?o0, ?o1, ?o2, ?o3, ?o4, ?o5, ?o6, trivial⟩ ?fin
        case o0 =>
          refine GdOp.plain rfl (fun A vs w' hF hT hb hd => ?_)
          have e1 : A.eval (.tmp 15) = .pointer (some ⟨v7.heap.size, 0, none⟩) := hF 15 rfl
          exact wp_loadP logP rfl e1 (pc.below hb pc.lt).cell0 (pc.below hb pc.lt).cell1 ⟨_, rfl, rfl, Below.refl _ _⟩
        case o1 =>
          refine GdOp.plain rfl (fun A vs w' hF hT hb hd => ?_)
          have e1 : A.eval (.tmp 2) = .int .i64 keep := hF 2 rfl
          exact BigFrame.wp_move _ rfl ⟨_, rfl, e1, Below.refl _ _⟩
        case o2 =>
          refine GdOp.plain rfl (fun A vs w' hF hT hb hd => ?_)
          have e1 : A.eval (.tmp 107) = .agg #[.slice a8 cs.length c8, .int .i64 sj] := (hT 107 0 (by simp) rfl).trans (hd ⟨0, .data⟩ (by simp) rfl)
          have e2 : A.eval (.tmp 108) = .int .i64 keep := (hT 108 1 (by simp) rfl).trans (hd ⟨1, .data⟩ (by simp) rfl)
          refine wp_callFn rfl (enters_of Try.func16 (by kernel_rfl) rfl) (args := #[.agg #[.slice a8 cs.length c8, .int .i64 sj], .int .i64 keep]) (by simp [e1, e2]) ((hC.crash w' (rc.below hb) hb.size (by omega) hsj hkeep).mono ?_)
          rintro e w2 ⟨a5, k5, c5, rfl, r5, hb2⟩
          exact ⟨_, rfl, _, rfl, ⟨a5, k5, c5, rfl, r5⟩, hb2⟩
        case o3 =>
          refine GdOp.plain rfl (fun A vs w' hF hT hb hd => ?_)
          obtain ⟨ad1, kk1, cc1, qq1, hr1⟩ := hd ⟨2, .data⟩ (by simp) rfl
          have e1 : A.eval (.tmp 109) = .agg #[.slice ad1 kk1 cc1, .int .i64 (crashN cs sj keep)] := (hT 109 2 (by simp) rfl).trans qq1
          refine wp_callFn rfl (enters_of Try.func18 (by kernel_rfl) rfl) (args := #[.agg #[.slice ad1 kk1 cc1, .int .i64 (crashN cs sj keep)]]) (by simp [e1]) ((hC.trim w' hr1 (Nat.le_refl _) hcc1 hcc2).mono ?_)
          rintro e w2 ⟨a5, k5, c5, rfl, r5, hb2⟩
          rw [hag.out.1] at r5
          exact ⟨_, rfl, _, rfl, ⟨a5, k5, c5, by rw [hag.out.2], r5⟩, hb2⟩
        case o4 =>
          refine GdOp.plain rfl (fun A vs w' hF hT hb hd => ?_)
          have e1 : A.eval (.tmp 15) = .pointer (some ⟨v7.heap.size, 0, none⟩) := hF 15 rfl
          exact wp_loadP logP rfl e1 (pc.below hb pc.lt).cell0 (pc.below hb pc.lt).cell1 ⟨_, rfl, rfl, Below.refl _ _⟩
        case o5 =>
          refine GdOp.plain rfl (fun A vs w' hF hT hb hd => ?_)
          obtain ⟨ad1, kk1, cc1, qq1, hr1⟩ := hd ⟨3, .data⟩ (by simp) rfl
          have e1 : A.eval (.tmp 110) = .agg #[.slice ad1 kk1 cc1, .int .i64 (sj)] := (hT 110 3 (by simp) rfl).trans qq1
          have e2 : A.eval (.tmp 111) = .agg #[.slice a8 cs.length c8, .int .i64 sj] := (hT 111 4 (by simp) rfl).trans (hd ⟨4, .data⟩ (by simp) rfl)
          refine wp_callFn rfl (enters_of Try.func13 (by kernel_rfl) rfl) (args := #[.agg #[.slice ad1 kk1 cc1, .int .i64 (sj)], .agg #[.slice a8 cs.length c8, .int .i64 sj]]) (by simp [e1, e2]) ((refSameL_any w' hr1 (Nat.le_refl _) (rc.below hb) hb.size).mono ?_)
          rintro e w2 ⟨rfl, hb2⟩
          exact ⟨_, rfl, _, rfl, congrArg Value.bool (decide_eq_true ⟨rfl, rfl⟩), hb2⟩
        case o6 =>
          refine GdOp.plain rfl (fun A vs w' hF hT hb hd => ?_)
          have e1 : A.eval (.tmp 112) = .bool true := (hT 112 5 (by simp) rfl).trans (hd ⟨5, .data⟩ (by simp) rfl)
          exact BigFrame.wp_assign _ rfl ⟨_, rfl, e1, Below.refl _ _⟩
        case fin =>
          intro vs w' hb hG
          have e0 : vs 0 = .agg #[.slice a8 cs.length c8, .int .i64 sj] := hG 0 (by decide)
          have e1 : vs 1 = .int .i64 keep := hG 1 (by decide)
          obtain ⟨x2, y2, z2, e2, _⟩ := hG 2 (by decide)
          obtain ⟨x3, y3, z3, e3, _⟩ := hG 3 (by decide)
          have e4 : vs 4 = .agg #[.slice a8 cs.length c8, .int .i64 sj] := hG 4 (by decide)
          have e5 : vs 5 = .bool true := hG 5 (by decide)
          have e6 : vs 6 = .bool true := hG 6 (by decide)
          simp only [putAll, e0, e1, e2, e3, e4, e5, e6]
          clear hG e0 e1 e2 e3 e4 e5 e6
          replace pc := pc.below hb pc.lt
          replace pd := pd.below hb pd.lt
          replace rc := (rc.below hb).mono hb.size
          replace rd := (rd.below hb).mono hb.size
          replace qt := qt.trans (hb.mono qt.size)
          replace qu := qu.trans (hb.mono qu.size)
          replace q := q.trans (hb.mono q.size)
          clear hb
          go_simp
          go_upto_region 28 with (fail)
          obtain ⟨b2, off2, Au, Lu, Cu, rfl, hbl2, hcell2, hrd2⟩ := ru.at qu kt (by rw [List.length_append, hlj]; exact Nat.lt_succ_self _)
          rw [show (tss.take kt ++ [ms])[kt]'(by rw [List.length_append, hlj]; exact Nat.lt_succ_self _) = ms by rw [List.getElem_append_right (by omega)]; simp [hlj]] at hrd2
          have rut := ru.take kt (by rw [List.length_append, hlj]; exact Nat.le_succ _)
          rw [List.take_append_of_le_length (by omega), List.take_of_length_le (by omega)] at rut
          refine wp_region_gsa (by kernel_rfl) (by kernel_rfl) [sgEq (.bool true), sgEq (.bool true), sgEq (.bool true), sgEq (.bool true), sgEq (.bool true), sgEq (.int .i64 0), sgEq (.bool true), sgEq (.bool true), sgEq (.bool true), sgEq (.slice (some ⟨b2, off2, none⟩) (kt + 1) cu), sgEq (.int .i64 (kt + 1 : Nat)), sgEq (.slice at' kt ct), sgEq (.int .i64 kt), sgEq (.int .i64 (kt + 1)), sgEq (.bool true), sgEq (.bool true), sgEq (.bool true), sgEq (.slice (some ⟨b2, off2, none⟩) (kt + 1) cu), sgEq (.slice at' kt ct), sgEq (.int .i64 kt), sgEq (.slice (some ⟨b2, off2, none⟩) kt cu), sgEq (.slice at' kt ct), sgEq (.bool true), sgEq (.bool true), sgEq (.bool true), sgEq (.slice (some ⟨b2, off2, none⟩) (kt + 1) cu), sgEq (.slice at' kt ct), sgEq (.int .i64 kt), sgEq (.pointer (some ⟨b2, off2 + kt, none⟩)), sgEq (.slice Au Lu Cu), sgEq (.string (strOf ms)), sgEq (.slice a3 ms.length c3), sgEq (.string (strOf ms)), sgEq (.bool true), sgEq (.bool true), sgEq (.bool true), sgEq (.bool true), sgEq (.bool true), sgEq (.bool true)]
            ⟨?o0, ?o1, ?o2, ?o3, ?o4, ?o5, ?o6, ?o7, ?o8, ?o9, ?o10, ?o11, ?o12, ?o13, ?o14, ?o15, ?o16, ?o17, ?o18, ?o19, ?o20, ?o21, ?o22, ?o23, ?o24, ?o25, ?o26, ?o27, ?o28, ?o29, ?o30, ?o31, ?o32, ?o33, ?o34, ?o35, ?o36, ?o37, ?o38, trivial⟩ ?fin
          case o0 =>
            refine GdOp.plain rfl (fun A vs w' hF hT hb hd => ?_)
            have e1 : A.eval (.tmp 9) = .bool true := hF 9 rfl
            exact BigFrame.wp_move _ rfl ⟨_, rfl, e1, Below.refl _ _⟩
          case o1 =>
            refine GdOp.plain rfl (fun A vs w' hF hT hb hd => ?_)
            have e1 : A.eval (.tmp 113) = .bool true := (hT 113 0 (by simp) rfl).trans (hd ⟨0, .data⟩ (by simp) rfl)
            exact BigFrame.wp_move _ rfl ⟨_, rfl, e1, Below.refl _ _⟩
          case o2 =>
            refine GdOp.taken rfl ⟨_, _, rfl, rfl, by simp⟩ (by kernel_rfl) (fun w v h => h) (fun A vs w' hF hT hb hd => ?_)
            have e1 : A.eval (.tmp 17) = .bool true := hF 17 rfl
            exact BigFrame.wp_move _ rfl ⟨_, rfl, e1, Below.refl _ _⟩
          case o3 =>
            refine GdOp.plain rfl (fun A vs w' hF hT hb hd => ?_)
            have e1 : A.eval (.tmp 114) = .bool true := (hT 114 1 (by simp) rfl).trans (hd ⟨1, .data⟩ (by simp) rfl)
            have e2 : A.eval (.tmp 115) = .bool true := (hT 115 2 (by simp) rfl).trans (hd ⟨2, .data⟩ (by simp) rfl)
            exact wp_pk rfl e1 (fun _ => e2) (by simp) ⟨_, rfl, rfl, Below.refl _ _⟩
          case o4 =>
            refine GdOp.plain rfl (fun A vs w' hF hT hb hd => ?_)
            have e1 : A.eval (.tmp 116) = .bool true := (hT 116 3 (by simp) rfl).trans (hd ⟨3, .data⟩ (by simp) rfl)
            exact BigFrame.wp_move _ rfl ⟨_, rfl, e1, Below.refl _ _⟩
          case o5 =>
            refine GdOp.taken rfl ⟨_, _, rfl, rfl, by simp⟩ (by kernel_rfl) (fun w v h => h) (fun A vs w' hF hT hb hd => ?_)
            have e1 : A.eval (.tmp 19) = .int .i64 0 := hF 19 rfl
            exact BigFrame.wp_move _ rfl ⟨_, rfl, e1, Below.refl _ _⟩
          case o6 =>
            refine GdOp.taken rfl ⟨_, _, rfl, rfl, by simp⟩ (by kernel_rfl) (fun w v h => h) (fun A vs w' hF hT hb hd => ?_)
            have e1 : A.eval (.tmp 118) = .int .i64 0 := (hT 118 5 (by simp) rfl).trans (hd ⟨5, .data⟩ (by simp) rfl)
            exact wp_eqlI rfl e1 rfl ⟨_, rfl, congrArg Value.bool (by simp), Below.refl _ _⟩
          case o7 =>
            refine GdOp.plain rfl (fun A vs w' hF hT hb hd => ?_)
            have e1 : A.eval (.tmp 117) = .bool true := (hT 117 4 (by simp) rfl).trans (hd ⟨4, .data⟩ (by simp) rfl)
            have e2 : A.eval (.tmp 119) = .bool true := (hT 119 6 (by simp) rfl).trans (hd ⟨6, .data⟩ (by simp) rfl)
            exact wp_pk rfl e1 (fun _ => e2) (by simp) ⟨_, rfl, rfl, Below.refl _ _⟩
          case o8 =>
            refine GdOp.plain rfl (fun A vs w' hF hT hb hd => ?_)
            have e1 : A.eval (.tmp 120) = .bool true := (hT 120 7 (by simp) rfl).trans (hd ⟨7, .data⟩ (by simp) rfl)
            exact BigFrame.wp_move _ rfl ⟨_, rfl, e1, Below.refl _ _⟩
          case o9 =>
            refine GdOp.taken rfl ⟨_, _, rfl, rfl, by simp⟩ (by kernel_rfl) (fun w v h => h) (fun A vs w' hF hT hb hd => ?_)
            have e1 : A.eval (.tmp 20) = .slice (some ⟨b2, off2, none⟩) (kt + 1) cu := hF 20 rfl
            exact BigFrame.wp_move _ rfl ⟨_, rfl, e1, Below.refl _ _⟩
          case o10 =>
            refine GdOp.taken rfl ⟨_, _, rfl, rfl, by simp⟩ (by kernel_rfl) (fun w v h => h) (fun A vs w' hF hT hb hd => ?_)
            have e1 : A.eval (.tmp 122) = .slice (some ⟨b2, off2, none⟩) (kt + 1) cu := (hT 122 9 (by simp) rfl).trans (hd ⟨9, .data⟩ (by simp) rfl)
            exact wp_lenS (e := 22) rfl (by kernel_rfl) e1 ⟨_, rfl, rfl, Below.refl _ _⟩
          case o11 =>
            refine GdOp.taken rfl ⟨_, _, rfl, rfl, by simp⟩ (by kernel_rfl) (fun w v h => h) (fun A vs w' hF hT hb hd => ?_)
            have e1 : A.eval (.tmp 16) = .slice at' kt ct := hF 16 rfl
            exact BigFrame.wp_move _ rfl ⟨_, rfl, e1, Below.refl _ _⟩
          case o12 =>
            refine GdOp.taken rfl ⟨_, _, rfl, rfl, by simp⟩ (by kernel_rfl) (fun w v h => h) (fun A vs w' hF hT hb hd => ?_)
            have e1 : A.eval (.tmp 124) = .slice at' kt ct := (hT 124 11 (by simp) rfl).trans (hd ⟨11, .data⟩ (by simp) rfl)
            exact wp_lenS (e := 22) rfl (by kernel_rfl) e1 ⟨_, rfl, rfl, Below.refl _ _⟩
          case o13 =>
            refine GdOp.taken rfl ⟨_, _, rfl, rfl, by simp⟩ (by kernel_rfl) (fun w v h => h) (fun A vs w' hF hT hb hd => ?_)
            have e1 : A.eval (.tmp 125) = .int .i64 kt := (hT 125 12 (by simp) rfl).trans (hd ⟨12, .data⟩ (by simp) rfl)
            exact wp_addI rfl e1 rfl (by omega) (by omega) ⟨_, rfl, rfl, Below.refl _ _⟩
          case o14 =>
            refine GdOp.taken rfl ⟨_, _, rfl, rfl, by simp⟩ (by kernel_rfl) (fun w v h => h) (fun A vs w' hF hT hb hd => ?_)
            have e1 : A.eval (.tmp 123) = .int .i64 (kt + 1 : Nat) := (hT 123 10 (by simp) rfl).trans (hd ⟨10, .data⟩ (by simp) rfl)
            have e2 : A.eval (.tmp 126) = .int .i64 (kt + 1) := (hT 126 13 (by simp) rfl).trans (hd ⟨13, .data⟩ (by simp) rfl)
            exact wp_eqlI rfl e1 e2 ⟨_, rfl, congrArg Value.bool (by simp), Below.refl _ _⟩
          case o15 =>
            refine GdOp.plain rfl (fun A vs w' hF hT hb hd => ?_)
            have e1 : A.eval (.tmp 121) = .bool true := (hT 121 8 (by simp) rfl).trans (hd ⟨8, .data⟩ (by simp) rfl)
            have e2 : A.eval (.tmp 127) = .bool true := (hT 127 14 (by simp) rfl).trans (hd ⟨14, .data⟩ (by simp) rfl)
            exact wp_pk rfl e1 (fun _ => e2) (by simp) ⟨_, rfl, rfl, Below.refl _ _⟩
          case o16 =>
            refine GdOp.plain rfl (fun A vs w' hF hT hb hd => ?_)
            have e1 : A.eval (.tmp 128) = .bool true := (hT 128 15 (by simp) rfl).trans (hd ⟨15, .data⟩ (by simp) rfl)
            exact BigFrame.wp_move _ rfl ⟨_, rfl, e1, Below.refl _ _⟩
          case o17 =>
            refine GdOp.taken rfl ⟨_, _, rfl, rfl, by simp⟩ (by kernel_rfl) (fun w v h => h) (fun A vs w' hF hT hb hd => ?_)
            have e1 : A.eval (.tmp 20) = .slice (some ⟨b2, off2, none⟩) (kt + 1) cu := hF 20 rfl
            exact BigFrame.wp_move _ rfl ⟨_, rfl, e1, Below.refl _ _⟩
          case o18 =>
            refine GdOp.taken rfl ⟨_, _, rfl, rfl, by simp⟩ (by kernel_rfl) (fun w v h => h) (fun A vs w' hF hT hb hd => ?_)
            have e1 : A.eval (.tmp 16) = .slice at' kt ct := hF 16 rfl
            exact BigFrame.wp_move _ rfl ⟨_, rfl, e1, Below.refl _ _⟩
          case o19 =>
            refine GdOp.taken rfl ⟨_, _, rfl, rfl, by simp⟩ (by kernel_rfl) (fun w v h => h) (fun A vs w' hF hT hb hd => ?_)
            have e1 : A.eval (.tmp 131) = .slice at' kt ct := (hT 131 18 (by simp) rfl).trans (hd ⟨18, .data⟩ (by simp) rfl)
            exact wp_lenS (e := 22) rfl (by kernel_rfl) e1 ⟨_, rfl, rfl, Below.refl _ _⟩
          case o20 =>
            refine GdOp.taken rfl ⟨_, _, rfl, rfl, by simp⟩ (by kernel_rfl) (fun w v h => h) (fun A vs w' hF hT hb hd => ?_)
            have e1 : A.eval (.tmp 130) = .slice (some ⟨b2, off2, none⟩) (kt + 1) cu := (hT 130 17 (by simp) rfl).trans (hd ⟨17, .data⟩ (by simp) rfl)
            have e2 : A.eval (.tmp 132) = .int .i64 kt := (hT 132 19 (by simp) rfl).trans (hd ⟨19, .data⟩ (by simp) rfl)
            exact wp_sliceHi (E := 22) (by kernel_rfl) (by kernel_rfl) rfl e1 e2 ⟨_, rfl, rfl, Below.refl _ _⟩ rfl (by omega)
          case o21 =>
            refine GdOp.taken rfl ⟨_, _, rfl, rfl, by simp⟩ (by kernel_rfl) (fun w v h => h) (fun A vs w' hF hT hb hd => ?_)
            have e1 : A.eval (.tmp 16) = .slice at' kt ct := hF 16 rfl
            exact BigFrame.wp_move _ rfl ⟨_, rfl, e1, Below.refl _ _⟩
          case o22 =>
            refine GdOp.taken rfl ⟨_, _, rfl, rfl, by simp⟩ (by kernel_rfl) (fun w v h => h) (fun A vs w' hF hT hb hd => ?_)
            have e1 : A.eval (.tmp 133) = .slice (some ⟨b2, off2, none⟩) kt cu := (hT 133 20 (by simp) rfl).trans (hd ⟨20, .data⟩ (by simp) rfl)
            have e2 : A.eval (.tmp 134) = .slice at' kt ct := (hT 134 21 (by simp) rfl).trans (hd ⟨21, .data⟩ (by simp) rfl)
            refine wp_callFn rfl (enters_of Try.func20 (by kernel_rfl) rfl) (args := #[.slice (some ⟨b2, off2, none⟩) kt cu, .slice at' kt ct]) (by simp [e1, e2]) ((same_any w' rut (qu.trans (hb.mono qu.size)) rt (qt.trans (hb.mono qt.size))).mono ?_)
            rintro e w2 ⟨rfl, hb2⟩
            exact ⟨_, rfl, _, rfl, congrArg Value.bool (decide_eq_true rfl), hb2⟩
          case o23 =>
            refine GdOp.plain rfl (fun A vs w' hF hT hb hd => ?_)
            have e1 : A.eval (.tmp 129) = .bool true := (hT 129 16 (by simp) rfl).trans (hd ⟨16, .data⟩ (by simp) rfl)
            have e2 : A.eval (.tmp 135) = .bool true := (hT 135 22 (by simp) rfl).trans (hd ⟨22, .data⟩ (by simp) rfl)
            exact wp_pk rfl e1 (fun _ => e2) (by simp) ⟨_, rfl, rfl, Below.refl _ _⟩
          case o24 =>
            refine GdOp.plain rfl (fun A vs w' hF hT hb hd => ?_)
            have e1 : A.eval (.tmp 136) = .bool true := (hT 136 23 (by simp) rfl).trans (hd ⟨23, .data⟩ (by simp) rfl)
            exact BigFrame.wp_move _ rfl ⟨_, rfl, e1, Below.refl _ _⟩
          case o25 =>
            refine GdOp.taken rfl ⟨_, _, rfl, rfl, by simp⟩ (by kernel_rfl) (fun w v h => h) (fun A vs w' hF hT hb hd => ?_)
            have e1 : A.eval (.tmp 20) = .slice (some ⟨b2, off2, none⟩) (kt + 1) cu := hF 20 rfl
            exact BigFrame.wp_move _ rfl ⟨_, rfl, e1, Below.refl _ _⟩
          case o26 =>
            refine GdOp.taken rfl ⟨_, _, rfl, rfl, by simp⟩ (by kernel_rfl) (fun w v h => h) (fun A vs w' hF hT hb hd => ?_)
            have e1 : A.eval (.tmp 16) = .slice at' kt ct := hF 16 rfl
            exact BigFrame.wp_move _ rfl ⟨_, rfl, e1, Below.refl _ _⟩
          case o27 =>
            refine GdOp.taken rfl ⟨_, _, rfl, rfl, by simp⟩ (by kernel_rfl) (fun w v h => h) (fun A vs w' hF hT hb hd => ?_)
            have e1 : A.eval (.tmp 139) = .slice at' kt ct := (hT 139 26 (by simp) rfl).trans (hd ⟨26, .data⟩ (by simp) rfl)
            exact wp_lenS (e := 22) rfl (by kernel_rfl) e1 ⟨_, rfl, rfl, Below.refl _ _⟩
          case o28 =>
            refine GdOp.taken rfl ⟨_, _, rfl, rfl, by simp⟩ (by kernel_rfl) (fun w v h => h) (fun A vs w' hF hT hb hd => ?_)
            have e1 : A.eval (.tmp 138) = .slice (some ⟨b2, off2, none⟩) (kt + 1) cu := (hT 138 25 (by simp) rfl).trans (hd ⟨25, .data⟩ (by simp) rfl)
            have e2 : A.eval (.tmp 140) = .int .i64 kt := (hT 140 27 (by simp) rfl).trans (hd ⟨27, .data⟩ (by simp) rfl)
            exact wp_ix (e := 22) rfl (by kernel_rfl) (by kernel_rfl) e1 e2 rfl (by omega) ⟨_, rfl, rfl, Below.refl _ _⟩
          case o29 =>
            refine GdOp.taken rfl ⟨_, _, rfl, rfl, by simp⟩ (by kernel_rfl) (fun w v h => h) (fun A vs w' hF hT hb hd => ?_)
            have e1 : A.eval (.tmp 141) = .pointer (some ⟨b2, off2 + kt, none⟩) := (hT 141 28 (by simp) rfl).trans (hd ⟨28, .data⟩ (by simp) rfl)
            exact wp_ld_slice (e := 5) rfl e1 (by kernel_rfl) ((hb.cell (p := ⟨b2, off2 + kt, none⟩) (Nat.lt_of_lt_of_le hbl2 qu.size)).trans hcell2) ⟨_, rfl, rfl, Below.refl _ _⟩
          case o30 =>
            refine GdOp.taken rfl ⟨_, _, rfl, rfl, by simp⟩ (by kernel_rfl) (fun w v h => h) (fun A vs w' hF hT hb hd => ?_)
            have e1 : A.eval (.tmp 142) = .slice Au Lu Cu := (hT 142 29 (by simp) rfl).trans (hd ⟨29, .data⟩ (by simp) rfl)
            exact wp_conv byP rfl e1 (hrd2.below (hb.mono qu.size)) ⟨_, rfl, rfl, Below.refl _ _⟩
          case o31 =>
            refine GdOp.taken rfl ⟨_, _, rfl, rfl, by simp⟩ (by kernel_rfl) (fun w v h => h) (fun A vs w' hF hT hb hd => ?_)
            have e1 : A.eval (.tmp 3) = .slice a3 ms.length c3 := hF 3 rfl
            exact BigFrame.wp_move _ rfl ⟨_, rfl, e1, Below.refl _ _⟩
          case o32 =>
            refine GdOp.taken rfl ⟨_, _, rfl, rfl, by simp⟩ (by kernel_rfl) (fun w v h => h) (fun A vs w' hF hT hb hd => ?_)
            have e1 : A.eval (.tmp 144) = .slice a3 ms.length c3 := (hT 144 31 (by simp) rfl).trans (hd ⟨31, .data⟩ (by simp) rfl)
            exact wp_conv byP rfl e1 (hm.below (q.trans (hb.mono q.size))) ⟨_, rfl, rfl, Below.refl _ _⟩
          case o33 =>
            refine GdOp.taken rfl ⟨_, _, rfl, rfl, by simp⟩ (by kernel_rfl) (fun w v h => h) (fun A vs w' hF hT hb hd => ?_)
            have e1 : A.eval (.tmp 143) = .string (strOf ms) := (hT 143 30 (by simp) rfl).trans (hd ⟨30, .data⟩ (by simp) rfl)
            have e2 : A.eval (.tmp 145) = .string (strOf ms) := (hT 145 32 (by simp) rfl).trans (hd ⟨32, .data⟩ (by simp) rfl)
            exact wp_eqlS rfl e1 e2 ⟨_, rfl, congrArg Value.bool (by simp), Below.refl _ _⟩
          case o34 =>
            refine GdOp.plain rfl (fun A vs w' hF hT hb hd => ?_)
            have e1 : A.eval (.tmp 137) = .bool true := (hT 137 24 (by simp) rfl).trans (hd ⟨24, .data⟩ (by simp) rfl)
            have e2 : A.eval (.tmp 146) = .bool true := (hT 146 33 (by simp) rfl).trans (hd ⟨33, .data⟩ (by simp) rfl)
            exact wp_pk rfl e1 (fun _ => e2) (by simp) ⟨_, rfl, rfl, Below.refl _ _⟩
          case o35 =>
            refine GdOp.plain rfl (fun A vs w' hF hT hb hd => ?_)
            have e1 : A.eval (.tmp 147) = .bool true := (hT 147 34 (by simp) rfl).trans (hd ⟨34, .data⟩ (by simp) rfl)
            exact BigFrame.wp_move _ rfl ⟨_, rfl, e1, Below.refl _ _⟩
          case o36 =>
            refine GdOp.taken rfl ⟨_, _, rfl, rfl, by simp⟩ (by kernel_rfl) (fun w v h => h) (fun A vs w' hF hT hb hd => ?_)
            have e1 : A.eval (.tmp 21) = .bool true := hF 21 rfl
            exact BigFrame.wp_move _ rfl ⟨_, rfl, e1, Below.refl _ _⟩
          case o37 =>
            refine GdOp.plain rfl (fun A vs w' hF hT hb hd => ?_)
            have e1 : A.eval (.tmp 148) = .bool true := (hT 148 35 (by simp) rfl).trans (hd ⟨35, .data⟩ (by simp) rfl)
            have e2 : A.eval (.tmp 149) = .bool true := (hT 149 36 (by simp) rfl).trans (hd ⟨36, .data⟩ (by simp) rfl)
            exact wp_pk rfl e1 (fun _ => e2) (by simp) ⟨_, rfl, rfl, Below.refl _ _⟩
          case o38 =>
            refine GdOp.plain rfl (fun A vs w' hF hT hb hd => ?_)
            have e1 : A.eval (.tmp 150) = .bool true := (hT 150 37 (by simp) rfl).trans (hd ⟨37, .data⟩ (by simp) rfl)
            exact BigFrame.wp_assign _ rfl ⟨_, rfl, e1, Below.refl _ _⟩
          case fin =>
            intro A vs w' hA hb hG
            have e8 : A.eval (.tmp 8) = .bool true := (hA.2.2.2 8 38 (by simp) rfl).trans (hG 38 (by decide))
            have hd : A.defers = [] := hA.1
            clear hG hA
            go_wp2
            refine bodyPost_ret (v := .bool true) ?_ hd ⟨rfl, q.trans (hb.mono q.size)⟩
            rw [← e8]
            exact results_tmp rfl _ _ _
end Go.Proofs.Ytebilecgmblmfaa
