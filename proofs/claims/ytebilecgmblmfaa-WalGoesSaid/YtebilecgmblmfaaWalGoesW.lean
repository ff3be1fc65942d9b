/-
  THE WALK OF WalGoes: whatever the texts, the steps and the crashes: true, and nothing that lay has turned; wal's functions by their contracts.
-/
import Derived.WalkKit
import Derived.WalkSpells
import Derived.WalkLawsBesides
import Derived.Lib.Hide
import Derived.Deep.Cut
import Derived.Deep.QuietTactic
import Derived.BigQuiet
import Derived.Test.YtebilecgmblmfaaProg
import Derived.Test.YtebilecgmblmfaaByte
import Derived.Test.YtebilecgmblmfaaAux
import Derived.Test.YtebilecgmblmfaaRyo
import Derived.Test.YtebilecgmblmfaaRyk
import Derived.Test.YtebilecgmblmfaaInts
import Derived.Test.YtebilecgmblmfaaOpn
import Derived.Test.YtebilecgmblmfaaKept
import Derived.Test.YtebilecgmblmfaaLink
import Derived.Test.YtebilecgmblmfaaSink
import Derived.Test.YtebilecgmblmfaaWalM
import Derived.Test.YtebilecgmblmfaaWalR
import Derived.Test.YtebilecgmblmfaaWalS
import Derived.Test.YtebilecgmblmfaaWalC
import Derived.Test.YtebilecgmblmfaaWalG
import Derived.Test.YtebilecgmblmfaaWalA
import Derived.Test.YtebilecgmblmfaaWalY
namespace Go.Proofs.Ytebilecgmblmfaa
open Go.RowKit
theorem rdNo_set2 {o : Option Nat} {W : World} {g : Nat} {t : TypeId} {x y u z v : Value} {xs : List UInt8} (h : RdNo o W.heap.size W v xs) (hp : PairV W g t x y) (hx : NotU8 x) (hy : NotU8 y) (hu : NotU8 u) : RdNo o ((W.setCell ⟨g, 0, none⟩ u).setCell ⟨g, 1, none⟩ z).heap.size ((W.setCell ⟨g, 0, none⟩ u).setCell ⟨g, 1, none⟩ z) v xs := by
  have r0 := h.box (Nat.le_refl _) (grown_set W g 0 u) hp hx hy
  have r1 := r0.box (by rw [size_set]; exact Nat.le_refl _) (grown_set _ g 1 z) (hp.put0 u) hu hy
  rw [size_set, size_set]
  exact r1
theorem ownR_set2 {E : TypeId} {base : Nat} {W : World} {g : Nat} {t : TypeId} {x y u z v : Value} {xss : List (List UInt8)} (hE : E ≠ t) (h : OwnR E base W v xss) (hp : PairV W g t x y) (hx : NotU8 x) (hy : NotU8 y) (hu : NotU8 u) : OwnR E base ((W.setCell ⟨g, 0, none⟩ u).setCell ⟨g, 1, none⟩ z) v xss :=
  (h.box hE (grown_set W g 0 u) hp hx hy).box hE (grown_set _ g 1 z) (hp.put0 u) hu hy
theorem rdNo_below {o : Option Nat} {W W' : World} {v : Value} {xs : List UInt8} (h : RdNo o W.heap.size W v xs) (hb : Below W.heap.size W W') : RdNo o W'.heap.size W' v xs :=
  (h.grown (grown_below' hb _) (Nat.le_refl _) (.inl rfl)).mono hb.size
def kAppN {ok : Nat → Prop} {t : TypeId} (lo : Nat) (zs : List UInt8) (s : Int) (er : Nat) : SGk ok t := ⟨fun w v => ∃ ad k c, v = .tuple #[.agg #[.slice ad k c, .int .i64 s], .int .i64 er] ∧ Rd w.heap.size w (.slice ad k c) zs ∧ BlkGe lo ad zs, fun _ _ _ ⟨ad, k, c, h, hr, hl⟩ hb => ⟨ad, k, c, h, (hr.below hb).mono hb.size, hl⟩, fun _ _ _ ⟨ad, k, c, h, hr, hl⟩ hk => ⟨ad, k, c, h, rd_box_up hr hk, hl⟩⟩
def kLogN {ok : Nat → Prop} {t : TypeId} (lo : Nat) (xs : List UInt8) (s : Int) : SGk ok t := ⟨fun w v => ∃ ad k c, v = .agg #[.slice ad k c, .int .i64 s] ∧ Rd w.heap.size w (.slice ad k c) xs ∧ BlkGe lo ad xs, fun _ _ _ ⟨ad, k, c, h, hr, hl⟩ hb => ⟨ad, k, c, h, (hr.below hb).mono hb.size, hl⟩, fun _ _ _ ⟨ad, k, c, h, hr, hl⟩ hk => ⟨ad, k, c, h, rd_box_up hr hk, hl⟩⟩
theorem app_knownN {w w' : World} {bs zs : List UInt8} {s : Int} {tss : List (List UInt8)} {er : Nat} {e : Ending} (hA : appS bs s tss = (zs, er)) (h : AppNew w bs s tss e w') :
    ∃ a k c, e = .returned (.tuple #[.agg #[.slice a k c, .int .i64 s], .int .i64 (er : Nat)]) ∧ Rd w'.heap.size w' (.slice a k c) zs ∧ Below w.heap.size w w' ∧ BlkGe w.heap.size a zs := by
  unfold AppNew at h; rw [hA] at h; exact h
theorem rs_ne : 22 ≠ 24 := by decide
theorem wp_convU {P : Program} {o : Oper} {a : Act} {K : Act → World → Prop} {Q : Exit → Act → World → Prop} {w : World} {t t2 : TypeId} {x : Operand} {n : Int} (ho : o.op = .convert t t2 x) (h1 : P.underlying t = some (.int .u16)) (h2 : P.underlying t2 = some (.int .i64)) (hx : a.eval x = .int .u16 n) (h0 : 0 ≤ n) (hn : n ≤ 65535) (h : K (a.put o.dst (.int .i64 n)) w) : o.wp P a w K Q := by
  refine wp_run ?_ h
  simp only [execOp, ho, hx]
  simp [convert, run_underlying h1, run_underlying h2, go_sem, IntWalk.i64_in n ⟨by omega, by omega⟩]
set_option maxRecDepth 100000 in
set_option maxHeartbeats 4000000 in
theorem WalGoes_w (w : World) {a0 : Option Addr} {n0 c0 : Nat} {tss : List (List UInt8)} (ht : RdRows w (.slice a0 n0 c0) tss) {a1 : Option Addr} {n1 c1 : Nat} {ks : List UInt8} (hks : Rd w.heap.size w (.slice a1 n1 c1) ks) {a2 : Option Addr} {n2 c2 : Nat} {us : List Int} (hus : U16s w (.slice a2 n2 c2) us) :
    Calls Try.prog 6 #[.slice a0 n0 c0, .slice a1 n1 c1, .slice a2 n2 c2] w fun e w' => e = .returned (.bool true) ∧ Below w.heap.size w w' := by
  obtain ⟨rfl, hnc2, hcm2⟩ := ht.len
  obtain ⟨rfl, hnc1, hcm1⟩ := hks.len
  have hlm2 : tss.length ≤ 9223372036854775807 := by unfold maxLen at hcm2; omega
  have hlm1 : ks.length ≤ 9223372036854775807 := by unfold maxLen at hcm1; omega
  obtain ⟨⟨a2', c2', hu1, hu2, hu3, hu4⟩, hu5⟩ := hus
  injection hu1 with e1 e2 e3
  subst e1; subst e2; subst e3
  have hlmu : us.length ≤ 9223372036854775807 := by unfold maxLen at hu3; omega
  have q := Below.refl w.heap.size w
  go_enter Try.func6, Try.ntmps6
  go_wp2_with fail
  refine (walC.awake w).mono ?_
  rintro e v1 ⟨rfl, hb⟩
  replace q := q.trans (hb.mono q.size)
  go_upto_region 3 with (fail)
  have po := PairV.new v1 24 (.slice none 0 0) (.int .i64 0)
  have hbx : Below v1.heap.size v1 (v1.alloc (.cells #[.slice none 0 0, .int .i64 0] 24)) := (Below.refl _ _).alloc (Nat.le_refl _) _
  have hgw : w.heap.size ≤ v1.heap.size := q.size
  replace q := q.trans (hbx.mono q.size)
  clear hbx hb
  generalize v1.alloc (.cells #[.slice none 0 0, .int .i64 0] 24) = W0 at *
  generalize v1.heap.size = g at *
  go_upto_region 6 with (fail)
  go_loopw [9, 10, 11] (fun wv sv iv wr => ∃ (k y : Nat) (want : List (List UInt8)) (aw : Option Addr) (cw : Nat) (a5 : Option Addr) (k5 c5 : Nat) (zs : List UInt8) (s : Int), wv = .slice aw want.length cw ∧ sv = .int .i64 y ∧ iv = .int .i64 k ∧ k ≤ tss.length ∧ k ≤ 30 ∧ want.length ≤ k ∧ LogAt want y zs s ∧
      OwnR 22 (g + 1) wr (.slice aw want.length cw) want ∧ PairV wr g 24 (.slice a5 k5 c5) (.int .i64 s) ∧ RdNo (Value.ownBlock (.slice aw want.length cw)) wr.heap.size wr (.slice a5 k5 c5) zs ∧ Below w.heap.size w wr)
    (fun _ _ i _ => tss.length - (intOf i).toNat)
  case atStart => exact ⟨0, 0, [], none, 0, none, 0, 0, [], 0, rfl, rfl, rfl, Nat.zero_le _, by omega, Nat.le_refl _, LogAt.nil, OwnR.nil _ _ _, po, .inl ⟨none, 0, rfl, by unfold maxLen; omega, rfl⟩, q⟩
  case round =>
    clear po q
    obtain ⟨k, y, want, aw, cw, a5, k5, c5, zs, s, rfl, rfl, rfl, hkl, hk30, hwk, hL, hO, po, rn, q⟩ := hrel
    obtain rfl := rn.rd.len.1
    have hs := hL.i64
    have hzl := hL.len
    have hyl := hL.cle
    have lt0 := po.lt
    by_cases h1 : k < tss.length
    · by_cases h2 : k < ks.length
      · by_cases h3 : k < 30
        · obtain ⟨b, off, Ar, L, C, rfl, hbl, hcell0, hrd0⟩ := ht.at (Below.refl _ _) k h1
          obtain rfl : L = tss[k].length := hrd0.len.1
          have hcell := (q.cell (p := ⟨b, off + k, none⟩) hbl).trans hcell0
          have hrd := hrd0.below q
          have hLm : tss[k].length ≤ 9223372036854775807 := by have := hrd0.len.2; unfold maxLen at this; omega
          by_cases hbig : 100 < tss[k].length
          · have d3 : decide ((100 : Int) < tss[k].length) = true := by simp; omega
            go_wp2_with fail
            go_ret
            exact ⟨rfl, q⟩
          have d3 : decide ((100 : Int) < tss[k].length) = false := by simp; omega
          have h300 : tss[k].length ≤ 300 := by omega
          obtain ⟨yt, hyt⟩ : ∃ y, y = tss[k] := ⟨_, rfl⟩
          rw [← hyt] at hrd hrd0 d3 h300 hLm hcell hcell0
          obtain ⟨bk, offk, rfl, hBk, hck⟩ := hks.cellAt k h2
          have hkc := (q.cell (p := ⟨bk, offk + k, none⟩) hBk).trans (hck k h2)
          clear hyt hbig hck
          obtain ⟨x, hx⟩ : ∃ x : Nat, x = ks[k].toNat := ⟨_, rfl⟩
          have hx2 : x < 256 := by rw [hx]; exact ks[k].toNat_lt
          rw [← hx] at hkc
          clear hx
          by_cases hm1 : x % 4 < 2
          · have dA : decide (((x : Int) % 4) < 2) = true := by rw [decide_eq_true_iff]; omega
            go_upto_region 11 with (fail)
            have HAP := Lib.hid (hL.app h300)
            have hL2 := hL.snoc h300 (by omega)
            clear hL
            have r3 := rn.rd
            refine wp_region_new (by kernel_rfl) (by kernel_rfl) wr.heap.size (fun b => wr.heap.size ≤ b) 24 11 10 (Nat.le_refl _) (fun _ h => h) [kEq (.agg #[.slice a5 zs.length c5, .int .i64 s]), kEq (.slice (some ⟨b, off, none⟩) tss.length c0), kEq (.int .i64 k), kEq (.pointer (some ⟨b, off + k, none⟩)), kEq (.slice Ar yt.length C), kRow 22 (yt), kAppN wr.heap.size (zs ++ framesB [yt]) s 0, kAppN wr.heap.size (zs ++ framesB [yt]) s 0, kLogN wr.heap.size (zs ++ framesB [yt]) s, kEq (.int .i64 0), kBox, kAny, kEq (.int .i64 0)]
              (fun p => ⟨fun w' _ => ∃ b ad k c, p = .pointer (some ⟨b, 0, none⟩) ∧ PairV w' b 24 (.slice ad k c) (.int .i64 s) ∧ Rd w'.heap.size w' (.slice ad k c) (zs ++ framesB [yt]) ∧ BlkGe wr.heap.size ad (zs ++ framesB [yt]), fun A v C ⟨b, ad, k, c, h0, h, hr, hl⟩ hb => ⟨b, ad, k, c, h0, h.below hb h.lt, (hr.below hb).mono hb.size, hl⟩⟩)
              (by kernel_rfl) ⟨?o0, ?o1, ?o2, ?o3, ?o4, ?o5, ?o6, ?o7, ?o8, ?o9, ?o10, ?o11, ?o12, trivial⟩ ?fin
            case o0 =>
              refine GdOpL.plain rfl (fun A vs w' hF hT hR hd => ?_)
              exact wp_loadP logP rfl (hF 8 rfl) (hR.pair po (Nat.not_le.2 po.lt)).cell0 (hR.pair po (Nat.not_le.2 po.lt)).cell1 ⟨_, rfl, rfl, Below.refl _ _⟩
            case o1 =>
              refine GdOpL.plain rfl (fun A vs w' hF hT hR hd => ?_)
              exact BigFrame.wp_move _ rfl ⟨_, rfl, hF 0 rfl, Below.refl _ _⟩
            case o2 =>
              refine GdOpL.plain rfl (fun A vs w' hF hT hR hd => ?_)
              exact BigFrame.wp_move _ rfl ⟨_, rfl, hF 11 rfl, Below.refl _ _⟩
            case o3 =>
              refine GdOpL.plain rfl (fun A vs w' hF hT hR hd => ?_)
              have e1 : A.eval (.tmp 48) = .slice (some ⟨b, off, none⟩) tss.length c0 := (hT 48 1 (by simp) rfl).trans (hd ⟨1, .data⟩ (by simp) rfl)
              have e2 : A.eval (.tmp 49) = .int .i64 k := (hT 49 2 (by simp) rfl).trans (hd ⟨2, .data⟩ (by simp) rfl)
              exact wp_ix (e := 22) rfl (by kernel_rfl) (by kernel_rfl) e1 e2 rfl (by omega) ⟨_, rfl, rfl, Below.refl _ _⟩
            case o4 =>
              refine GdOpL.plain rfl (fun A vs w' hF hT hR hd => ?_)
              have e1 : A.eval (.tmp 50) = .pointer (some ⟨b, off + k, none⟩) := (hT 50 3 (by simp) rfl).trans (hd ⟨3, .data⟩ (by simp) rfl)
              exact wp_ld_slice (e := 5) rfl e1 (by kernel_rfl) ((hR.below.cell (p := ⟨b, off + k, none⟩) (Nat.lt_of_lt_of_le hbl q.size)).trans hcell) ⟨_, rfl, rfl, Below.refl _ _⟩
            case o5 =>
              refine GdOpL.plain rfl (fun A vs w' hF hT hR hd => ?_)
              have e1 : A.eval (.tmp 51) = .slice Ar yt.length C := (hT 51 4 (by simp) rfl).trans (hd ⟨4, .data⟩ (by simp) rfl)
              have hb1 : Below w'.heap.size w' (w'.alloc (.cells #[.slice Ar yt.length C] 22)) := (Below.refl _ _).alloc (Nat.le_refl _) _
              have hrr := (hrd.below (hR.below.mono q.size)).mono (Nat.le_trans q.size hR.below.size)
              exact wp_oneRow ryP rfl e1 ⟨_, rfl, ⟨_, Ar, _, C, rfl, heap_alloc_self _ _, (hrr.below hb1).mono hb1.size⟩, hb1⟩
            case o6 =>
              refine GdOpL.plain rfl (fun A vs w' hF hT hR hd => ?_)
              have e1 : A.eval (.tmp 47) = .agg #[.slice a5 zs.length c5, .int .i64 s] := (hT 47 0 (by simp) rfl).trans (hd ⟨0, .data⟩ (by simp) rfl)
              obtain ⟨b5, A5, L5, C5, q5, hc5, hr5⟩ := (hd ⟨5, .data⟩ (by simp) rfl)
              have e2 : A.eval (.tmp 52) = .slice (some ⟨b5, 0, none⟩) 1 1 := (hT 52 5 (by simp) rfl).trans q5
              refine wp_callFn rfl (enters_of Try.func11 (by kernel_rfl) rfl) (args := #[.agg #[.slice a5 zs.length c5, .int .i64 s], .slice (some ⟨b5, 0, none⟩) 1 1]) (by simp [e1, e2]) ((walApp_new w' (r3.below hR.below) hR.below.size (by omega) (rows_one hc5 hr5) (Below.refl _ _) (by simp)).mono ?_)
              rintro e w2 hA5
              obtain ⟨a5, k5, c5, rfl, r5, hb2, hl5⟩ := app_knownN HAP.out hA5
              exact ⟨_, rfl, _, rfl, ⟨a5, k5, c5, rfl, r5, hl5.mono hR.below.size⟩, hb2⟩
            case o7 =>
              refine GdOpL.plain rfl (fun A vs w' hF hT hR hd => ?_)
              obtain ⟨a5, k5, c5, q5, hr5, hl5⟩ := (hd ⟨6, .data⟩ (by simp) rfl)
              exact BigFrame.wp_move _ rfl ⟨_, rfl, ⟨a5, k5, c5, (hT 53 6 (by simp) rfl).trans q5, hr5, hl5⟩, Below.refl _ _⟩
            case o8 =>
              refine GdOpL.plain rfl (fun A vs w' hF hT hR hd => ?_)
              obtain ⟨a5, k5, c5, q5, hr5, hl5⟩ := (hd ⟨7, .data⟩ (by simp) rfl)
              exact wp_ex rfl ((hT 46 7 (by simp) rfl).trans q5) rfl ⟨_, rfl, ⟨a5, k5, c5, rfl, hr5, hl5⟩, Below.refl _ _⟩
            case o9 =>
              refine GdOpL.plain rfl (fun A vs w' hF hT hR hd => ?_)
              obtain ⟨a5, k5, c5, q5, hr5, hl5⟩ := (hd ⟨7, .data⟩ (by simp) rfl)
              exact wp_ex rfl ((hT 46 7 (by simp) rfl).trans q5) rfl ⟨_, rfl, rfl, Below.refl _ _⟩
            case o10 =>
              refine GdOpL.plain rfl (fun A vs w' hF hT hR hd => ?_)
              exact wp_allocP logP rfl ⟨_, rfl, ⟨_, rfl, hR.below.size, ⟨_, _, heap_alloc_self _ _, notU8_slice _ _ _, notU8_int _⟩⟩, (Below.refl _ _).alloc (Nat.le_refl _) _⟩
            case o11 =>
              refine GdOpL.plain rfl (fun A vs w' hF hT hR hd => ?_)
              obtain ⟨b5, q5, hb5, u0, v0, hx5, n1, n2⟩ := (hd ⟨10, .data⟩ (by simp) rfl)
              obtain ⟨a5, k5, c5, q6, hr6, hl6⟩ := (hd ⟨8, .data⟩ (by simp) rfl)
              have e1 : A.eval (.tmp 12) = .pointer (some ⟨b5, 0, none⟩) := (hT 12 10 (by simp) rfl).trans q5
              have e2 : A.eval (.tmp 54) = .agg #[.slice a5 k5 c5, .int .i64 s] := (hT 54 8 (by simp) rfl).trans q6
              refine wp_storeP logP rfl e1 e2 rfl rfl _ hx5 (fun w2 hg h2 => ?_)
              have hk : BoxK (fun b => wr.heap.size ≤ b) 24 w' w2 := .inr ⟨b5, hb5, hg, ⟨_, _, hx5, n1, n2⟩, ⟨_, _, h2, notU8_slice _ _ _, notU8_int _⟩⟩
              exact ⟨_, rfl, ⟨b5, a5, k5, c5, q5, h2, rd_box_up hr6 hk, hl6⟩, hk⟩
            case o12 =>
              refine GdOpL.plain rfl (fun A vs w' hF hT hR hd => ?_)
              exact BigFrame.wp_assign _ rfl ⟨_, rfl, (hT 55 9 (by simp) rfl).trans (hd ⟨9, .data⟩ (by simp) rfl), Below.refl _ _⟩
            case fin =>
              intro vs w' hR hG
              have e0 : vs 0 = .agg #[.slice a5 zs.length c5, .int .i64 s] := hG 0 (by decide)
              have e1 : vs 1 = .slice (some ⟨b, off, none⟩) tss.length c0 := hG 1 (by decide)
              have e2 : vs 2 = .int .i64 k := hG 2 (by decide)
              have e3 : vs 3 = .pointer (some ⟨b, off + k, none⟩) := hG 3 (by decide)
              have e4 : vs 4 = .slice Ar yt.length C := hG 4 (by decide)
              obtain ⟨b5, A5, L5, C5, e5, _, _⟩ := hG 5 (by decide)
              obtain ⟨x6, y6, z6, e6, _⟩ := hG 6 (by decide)
              obtain ⟨x7, y7, z7, e7, _⟩ := hG 7 (by decide)
              obtain ⟨x8, y8, z8, e8, _⟩ := hG 8 (by decide)
              have e9 : vs 9 = .int .i64 0 := hG 9 (by decide)
              obtain ⟨bx, ax, kx, cx, e10, px, rx, lx⟩ := hG 11 (by decide)
              have e12 : vs 12 = .int .i64 0 := hG 12 (by decide)
              simp only [putAll, e0, e1, e2, e3, e4, e5, e6, e7, e8, e9, e10, e12]
              clear hG e0 e1 e2 e3 e4 e5 e6 e7 e8 e9 e10 e12
              go_simp
              have rn2 := lx.no rx (Value.ownBlock (.slice aw want.length cw)) (fun k hk => (hO.block_lt k hk).2)
              clear rn r3 lx rx
              have rn := rn2
              clear rn2
              obtain rfl := rn.rd.len.1
              replace po := hR.pair po (Nat.not_le.2 po.lt)
              replace hO := hO.below hR.below
              replace q := q.trans (hR.below.mono q.size)
              clear hR
              generalize zs ++ framesB [yt] = zs2 at *
              have pxc0 := px.cell0
              have pxc1 := px.cell1
              have pof0 := po.frozen0
              have pof1 := po.frozen1
              have poc0 := po.cell0
              have poc1 := po.cell1
              have po5 := (po.put0 (.slice ax zs2.length cx)).put1 (.int .i64 s)
              have rn5 := rdNo_set2 (u := .slice ax zs2.length cx) (z := .int .i64 s) rn po (notU8_slice _ _ _) (notU8_int _) (notU8_slice _ _ _)
              have hO5 := ownR_set2 (u := .slice ax zs2.length cx) (z := .int .i64 s) rs_ne hO po (notU8_slice _ _ _) (notU8_int _) (notU8_slice _ _ _)
              have q5 := (q.setCell (p := ⟨g, 0, none⟩) hgw (.slice ax zs2.length cx)).setCell (p := ⟨g, 1, none⟩) hgw (.int .i64 s)
              go_upto_region 15 with (fail)
              clear pof0 pof1 poc0 poc1 po rn hO q hcell hrd hkc px pxc0 pxc1
              generalize (w'.setCell ⟨g, 0, none⟩ (.slice ax zs2.length cx)).setCell ⟨g, 1, none⟩ (.int .i64 s) = W5 at *
              have po := po5
              have rn := rn5
              have hO := hO5
              have q := q5
              clear po5 rn5 hO5 q5
              have hcell := (q.cell (p := ⟨b, off + k, none⟩) hbl).trans hcell0
              have hrd := hrd0.below q
              have hrow := (Rd.no (g := Value.ownBlock (.slice aw want.length cw)) hrd (fun k hk => by have := (hO.block_lt k hk).1; omega)).mono q.size
              have hbase : g + 1 ≤ W5.heap.size := po.lt
              go_upto_region 26 with (refine wpList_appendRow2 ryP rfl (fun _ => rfl) rfl rfl (by simp) rfl (fun _ => rfl) rfl hO hrow hbase ?_ (by omega); intro u6 a6 k6 c6 w6 hO6 hg6 hob6 hb6)
              clear hcell hrd hrow
              obtain rfl := hO6.len
              replace po := po.below hb6 (Nat.lt_succ_self g)
              replace rn := (rn.grown hg6 (Nat.le_refl _) hob6).mono hg6.size
              replace q := q.trans (hb6.mono (by omega))
              clear hO hg6 hob6 hb6
              have hO := hO6
              have hwl : (want ++ [yt]).length ≤ k + 1 := by rw [List.length_append]; simp; omega
              clear hO6 hwk
              have hL := hL2
              clear hL2
              generalize want ++ [yt] = want2 at *
              have hs := hL.i64
              have hzl := hL.len
              have poc0 := po.cell0
              have poc1 := po.cell1
              go_wp2_with fail
              refine (walC.texts _ rn.rd (Nat.le_refl _) (by omega) hs).mono ?_
              rintro e vT ⟨at', kt, ct, rfl, hOt, hb⟩
              rw [hL.texts] at hOt
              obtain rfl := hOt.len
              have rt := hOt.rows
              have qt := Below.refl vT.heap.size vT
              clear hOt poc0 poc1
              replace po := po.below hb po.lt
              replace hO := hO.below hb
              replace rn := rdNo_below rn hb
              replace q := q.trans (hb.mono q.size)
              clear hb
              go_wp2_with fail
              refine (same_any _ rt qt hO.rows (Below.refl _ _)).mono ?_
              rw [decide_eq_true (show want2 = want2 from rfl)]
              rintro e vS ⟨rfl, hb⟩
              replace po := po.below hb po.lt
              replace hO := hO.below hb
              replace rn := rdNo_below rn hb
              replace q := q.trans (hb.mono q.size)
              clear hb rt qt
              have poc0 := po.cell0
              have poc1 := po.cell1
              go_wp2_with fail
              refine (walC.check _ rn.rd (Nat.le_refl _) (by omega) hs).mono ?_
              rw [decide_eq_true hL.ok]
              rintro e vC ⟨rfl, hb⟩
              clear poc0 poc1
              replace po := po.below hb po.lt
              replace hO := hO.below hb
              replace rn := rdNo_below rn hb
              replace q := q.trans (hb.mono q.size)
              clear hb
              go_wp2_with fail
              go_roundw
              case rel => exact ⟨k + 1, y, want2, _, _, _, _, _, zs2, s, rfl, rfl, by go_num, by omega, by omega, by omega, hL, hO, po, rn, q⟩
              case measure => simp [intOf]; omega
          · have dA : decide (((x : Int) % 4) < 2) = false := by rw [decide_eq_false_iff_not]; omega
            by_cases hm2 : x % 4 = 2
            · have dB : (((x : Int) % 4) == 2) = true := by rw [beq_iff_eq]; omega
              go_upto_region 17 with (fail)
              have poc0 := po.cell0
              have poc1 := po.cell1
              go_wp2_with fail
              refine (walSync_new _ rn.rd (Nat.le_refl _) (by omega)).mono ?_
              rintro e v5 ⟨a6, k6, c6, rfl, r6, hb, hbg⟩
              clear poc0 poc1
              replace hL := hL.sync
              clear hs hzl
              generalize syncN zs s = s2 at *
              obtain rfl := r6.len.1
              have rn2 := hbg.no r6 (Value.ownBlock (.slice aw want.length cw)) (fun k hk => (hO.block_lt k hk).2)
              clear rn hbg r6
              have rn := rn2
              clear rn2
              replace po := po.below hb po.lt
              replace hO := hO.below hb
              replace q := q.trans (hb.mono q.size)
              clear hb
              have pof0 := po.frozen0
              have pof1 := po.frozen1
              have poc0 := po.cell0
              have poc1 := po.cell1
              have po5 := (po.put0 (.slice a6 zs.length c6)).put1 (.int .i64 s2)
              have rn5 := rdNo_set2 (u := .slice a6 zs.length c6) (z := .int .i64 s2) rn po (notU8_slice _ _ _) (notU8_int _) (notU8_slice _ _ _)
              have hO5 := ownR_set2 (u := .slice a6 zs.length c6) (z := .int .i64 s2) rs_ne hO po (notU8_slice _ _ _) (notU8_int _) (notU8_slice _ _ _)
              have q5 := (q.setCell (p := ⟨g, 0, none⟩) hgw (.slice a6 zs.length c6)).setCell (p := ⟨g, 1, none⟩) hgw (.int .i64 s2)
              go_upto_region 26 with (fail)
              clear pof0 pof1 poc0 poc1 po rn hO q hcell hrd hkc 
              generalize (v5.setCell ⟨g, 0, none⟩ (.slice a6 zs.length c6)).setCell ⟨g, 1, none⟩ (.int .i64 s2) = W5 at *
              have po := po5
              have rn := rn5
              have hO := hO5
              have q := q5
              clear po5 rn5 hO5 q5
              have hs := hL.i64
              have hzl := hL.len
              have poc0 := po.cell0
              have poc1 := po.cell1
              go_wp2_with fail
              refine (walC.texts _ rn.rd (Nat.le_refl _) (by omega) hs).mono ?_
              rintro e vT ⟨at', kt, ct, rfl, hOt, hb⟩
              rw [hL.texts] at hOt
              obtain rfl := hOt.len
              have rt := hOt.rows
              have qt := Below.refl vT.heap.size vT
              clear hOt poc0 poc1
              replace po := po.below hb po.lt
              replace hO := hO.below hb
              replace rn := rdNo_below rn hb
              replace q := q.trans (hb.mono q.size)
              clear hb
              go_wp2_with fail
              refine (same_any _ rt qt hO.rows (Below.refl _ _)).mono ?_
              rw [decide_eq_true (show want = want from rfl)]
              rintro e vS ⟨rfl, hb⟩
              replace po := po.below hb po.lt
              replace hO := hO.below hb
              replace rn := rdNo_below rn hb
              replace q := q.trans (hb.mono q.size)
              clear hb rt qt
              have poc0 := po.cell0
              have poc1 := po.cell1
              go_wp2_with fail
              refine (walC.check _ rn.rd (Nat.le_refl _) (by omega) hs).mono ?_
              rw [decide_eq_true hL.ok]
              rintro e vC ⟨rfl, hb⟩
              clear poc0 poc1
              replace po := po.below hb po.lt
              replace hO := hO.below hb
              replace rn := rdNo_below rn hb
              replace q := q.trans (hb.mono q.size)
              clear hb
              go_wp2_with fail
              go_roundw
              case rel => exact ⟨k + 1, want.length, want, _, _, _, _, _, zs, s2, rfl, rfl, by go_num, by omega, by omega, by omega, hL, hO, po, rn, q⟩
              case measure => simp [intOf]; omega
            · have dB : (((x : Int) % 4) == 2) = false := by rw [beq_eq_false_iff_ne]; omega
              by_cases h4 : k < us.length
              · have dC : decide ((k : Int) < us.length) = true := by rw [decide_eq_true_iff]; omega
                go_upto_region 20 with (fail)
                obtain ⟨bu, ou, rfl, hBu, hcu⟩ : ∃ b off, a2 = some ⟨b, off, none⟩ ∧ b < w.heap.size ∧ ∀ i z, us[i]? = some z → w.cell? ⟨b, off + i, none⟩ = some (.int .u16 z) := by
                  rcases hu4 with h | h
                  · subst h; exact absurd h4 (Nat.not_lt_zero _)
                  · exact h
                have hz5 := hu5 us[k] (List.getElem_mem h4)
                have hcz := hcu k us[k] (List.getElem?_eq_getElem h4)
                obtain ⟨z, hz⟩ : ∃ z, z = us[k] := ⟨_, rfl⟩
                rw [← hz] at hz5 hcz
                clear hz hcu
                obtain ⟨j, hcj, hjn, hLJ⟩ := hL.crash z
                have hco := crash_ok (keep := z) hL.ok
                have hcl : (crashB zs s z).length ≤ 20000 := hco.1
                have hci := hco.i64
                clear hco
                refine wp_region_sink (by kernel_rfl) (by kernel_rfl) (BoxK (fun b => b = g) 24) 8 (fun i => decide (i < 8)) (by kernel_rfl) (fun A => wr.grownBy A (some g)) (fun A h => grown_below' h _) (fun A => .inl rfl) (fun A B h k => grown_trans h (grown_below' k _)) (fun A B h k => by rcases k with rfl | ⟨b, rfl, hg, _⟩; exact h; exact grown_trans h hg)
                  [kEq (.agg #[.slice a5 zs.length c5, .int .i64 s]), kEq (.slice (some ⟨bu, ou, none⟩) us.length c2), kEq (.int .i64 k), kEq (.pointer (some ⟨bu, ou + k, none⟩)), kEq (.int .u16 z), kEq (.int .i64 z), kLog (crashB zs s z) (crashN zs s z), kLogN wr.heap.size (trimB (crashB zs s z) (crashN zs s z)) (trimN (crashB zs s z) (crashN zs s z))]
                  ⟨fun w' _ => ∃ ad k c, PairV w' g 24 (.slice ad k c) (.int .i64 (trimN (crashB zs s z) (crashN zs s z))) ∧ Rd w'.heap.size w' (.slice ad k c) (trimB (crashB zs s z) (crashN zs s z)) ∧ BlkGe wr.heap.size ad (trimB (crashB zs s z) (crashN zs s z)), fun A v C ⟨ad, k, c, h, hr, hl⟩ hb => ⟨ad, k, c, h.below hb h.lt, (hr.below hb).mono hb.size, hl⟩⟩
                  ⟨?o0, ?o1, ?o2, ?o3, ?o4, ?o5, ?o6, ?o7, ?o8, trivial⟩ ?fin
                case o0 =>
                  refine GdOpM.plain rfl (fun A vs w' hF hT hR h0 hd => ?_)
                  have e1 : A.eval (.tmp 8) = .pointer (some ⟨g, 0, none⟩) := hF 8 rfl
                  exact wp_loadP logP rfl e1 (po.below (h0 (.inl rfl)) po.lt).cell0 (po.below (h0 (.inl rfl)) po.lt).cell1 ⟨_, rfl, rfl, Below.refl _ _⟩
                case o1 =>
                  refine GdOpM.plain rfl (fun A vs w' hF hT hR h0 hd => ?_)
                  have e1 : A.eval (.tmp 2) = .slice (some ⟨bu, ou, none⟩) us.length c2 := hF 2 rfl
                  exact BigFrame.wp_move _ rfl ⟨_, rfl, e1, Below.refl _ _⟩
                case o2 =>
                  refine GdOpM.plain rfl (fun A vs w' hF hT hR h0 hd => ?_)
                  have e1 : A.eval (.tmp 11) = .int .i64 k := hF 11 rfl
                  exact BigFrame.wp_move _ rfl ⟨_, rfl, e1, Below.refl _ _⟩
                case o3 =>
                  refine GdOpM.plain rfl (fun A vs w' hF hT hR h0 hd => ?_)
                  have e1 : A.eval (.tmp 81) = .slice (some ⟨bu, ou, none⟩) us.length c2 := (hT 81 1 (by simp) rfl).trans (hd ⟨1, .data⟩ (by simp) rfl)
                  have e2 : A.eval (.tmp 82) = .int .i64 k := (hT 82 2 (by simp) rfl).trans (hd ⟨2, .data⟩ (by simp) rfl)
                  exact wp_ix (e := 41) rfl (by kernel_rfl) (by kernel_rfl) e1 e2 rfl h4 ⟨_, rfl, rfl, Below.refl _ _⟩
                case o4 =>
                  refine GdOpM.plain rfl (fun A vs w' hF hT hR h0 hd => ?_)
                  have e1 : A.eval (.tmp 83) = .pointer (some ⟨bu, ou + k, none⟩) := (hT 83 3 (by simp) rfl).trans (hd ⟨3, .data⟩ (by simp) rfl)
                  exact wp_ld_int (k := .u16) rfl e1 (by kernel_rfl) (((q.trans ((h0 (.inl rfl)).mono q.size)).cell (p := ⟨bu, ou + k, none⟩) hBu).trans hcz) ⟨_, rfl, rfl, Below.refl _ _⟩
                case o5 =>
                  refine GdOpM.plain rfl (fun A vs w' hF hT hR h0 hd => ?_)
                  have e1 : A.eval (.tmp 84) = .int .u16 z := (hT 84 4 (by simp) rfl).trans (hd ⟨4, .data⟩ (by simp) rfl)
                  exact wp_convU rfl (by kernel_rfl) (by kernel_rfl) e1 hz5.1 hz5.2 ⟨_, rfl, rfl, Below.refl _ _⟩
                case o6 =>
                  refine GdOpM.plain rfl (fun A vs w' hF hT hR h0 hd => ?_)
                  have e1 : A.eval (.tmp 80) = .agg #[.slice a5 zs.length c5, .int .i64 s] := (hT 80 0 (by simp) rfl).trans (hd ⟨0, .data⟩ (by simp) rfl)
                  have e2 : A.eval (.tmp 85) = .int .i64 z := (hT 85 5 (by simp) rfl).trans (hd ⟨5, .data⟩ (by simp) rfl)
                  refine wp_callFn rfl (enters_of Try.func16 (by kernel_rfl) rfl) (args := #[.agg #[.slice a5 zs.length c5, .int .i64 s], .int .i64 z]) (by simp [e1, e2]) ((walC.crash w' (rn.rd.below (h0 (.inl rfl))) (h0 (.inl rfl)).size (by omega) hs ⟨by omega, by omega⟩).mono ?_)
                  rintro e w2 ⟨a6, k6, c6, rfl, r6, hb2⟩
                  exact ⟨_, rfl, _, rfl, ⟨a6, k6, c6, rfl, r6⟩, hb2⟩
                case o7 =>
                  refine GdOpM.plain rfl (fun A vs w' hF hT hR h0 hd => ?_)
                  obtain ⟨a6, k6, c6, q6, r6⟩ := (hd ⟨6, .data⟩ (by simp) rfl)
                  have e3 : A.eval (.tmp 86) = .agg #[.slice a6 k6 c6, .int .i64 (crashN zs s z)] := (hT 86 6 (by simp) rfl).trans q6
                  refine wp_callFn rfl (enters_of Try.func18 (by kernel_rfl) rfl) (args := #[.agg #[.slice a6 k6 c6, .int .i64 (crashN zs s z)]]) (by simp [e3]) ((walTrim_new w' r6 (Nat.le_refl _) (by omega)).mono ?_)
                  rintro e w2 ⟨a7, k7, c7, rfl, r7, hb2, hl7⟩
                  exact ⟨_, rfl, _, rfl, ⟨a7, k7, c7, rfl, r7, hl7.mono (h0 (.inl rfl)).size⟩, hb2⟩
                case o8 =>
                  refine GdOpM.plain rfl (fun A vs w' hF hT hR h0 hd => ?_)
                  have e1 : A.eval (.tmp 8) = .pointer (some ⟨g, 0, none⟩) := hF 8 rfl
                  obtain ⟨a6, k6, c6, q6, r6, l6⟩ := (hd ⟨7, .data⟩ (by simp) rfl)
                  have e3 : A.eval (.tmp 87) = .agg #[.slice a6 k6 c6, .int .i64 (trimN (crashB zs s z) (crashN zs s z))] := (hT 87 7 (by simp) rfl).trans q6
                  have hx5 := po.below (h0 (.inr rfl)) po.lt
                  refine wp_storeP logP rfl e1 e3 rfl rfl _ hx5 (fun w2 hg h2 => ?_)
                  have hk : BoxK (fun b => b = g) 24 w' w2 := .inr ⟨g, rfl, hg, ⟨_, _, hx5, notU8_slice _ _ _, notU8_int _⟩, ⟨_, _, h2, notU8_slice _ _ _, notU8_int _⟩⟩
                  exact ⟨_, rfl, ⟨a6, k6, c6, h2, rd_box_up r6 hk, l6⟩, hk⟩
                case fin =>
                  intro vs w' hR hG
                  have e0 : vs 0 = .agg #[.slice a5 zs.length c5, .int .i64 s] := hG 0 (by decide)
                  have e1 : vs 1 = .slice (some ⟨bu, ou, none⟩) us.length c2 := hG 1 (by decide)
                  have e2 : vs 2 = .int .i64 k := hG 2 (by decide)
                  have e3 : vs 3 = .pointer (some ⟨bu, ou + k, none⟩) := hG 3 (by decide)
                  have e4 : vs 4 = .int .u16 z := hG 4 (by decide)
                  have e5 : vs 5 = .int .i64 z := hG 5 (by decide)
                  obtain ⟨x6, y6, z6, e6, _⟩ := hG 6 (by decide)
                  obtain ⟨x7, y7, z7, e7, _, _⟩ := hG 7 (by decide)
                  obtain ⟨a6, k6, c6, hp, r6, l6⟩ := hG 8 (by decide)
                  simp only [putAll, e0, e1, e2, e3, e4, e5, e6, e7]
                  clear hG e0 e1 e2 e3 e4 e5 e6 e7
                  go_simp
                  have rn2 := l6.no r6 (Value.ownBlock (.slice aw want.length cw)) (fun k hk => (hO.block_lt k hk).2)
                  replace hO := hO.box rs_ne hR po (notU8_slice _ _ _) (notU8_int _)
                  replace q := q.grown hR q.size (fun k e => by cases e; exact hgw)
                  clear rn po l6 r6 hR hcell hrd hkc hL hs hzl hcl hci
                  have rn := rn2
                  have po := hp
                  clear rn2 hp
                  obtain rfl := rn.rd.len.1
                  generalize trimB (crashB zs s z) (crashN zs s z) = cs at *
                  generalize trimN (crashB zs s z) (crashN zs s z) = sj at *
                  have hs := hLJ.i64
                  have hzl := hLJ.len
                  have hcw := hO.rows.len.2.1
                  have hOj := hO.take j hjn
                  have hob : Value.ownBlock (.slice aw j cw) = Value.ownBlock (.slice aw want.length cw) := by cases aw <;> rfl
                  rw [← hob] at rn
                  clear hob hO
                  have hO := hOj
                  clear hOj
                  have hlj : (want.take j).length = j := by rw [List.length_take]; omega
                  have dk : decide ((j : Int) < (y : Int)) = false := by rw [decide_eq_false_iff_not]; omega
                  have dn : decide ((want.length : Int) < (j : Int)) = false := by rw [decide_eq_false_iff_not]; omega
                  generalize hwn : want.length = wn at *
                  have hjk : j ≤ k := by omega
                  generalize want.take j = want2 at *
                  clear hwn
                  subst hlj
                  have poc0 := po.cell0
                  have poc1 := po.cell1
                  go_wp2_with fail
                  refine (walC.texts _ rn.rd (Nat.le_refl _) (by omega) hs).mono ?_
                  rintro e vT ⟨at', kt, ct, rfl, hOt, hb⟩
                  rw [hLJ.texts] at hOt
                  obtain rfl := hOt.len
                  clear poc0 poc1 hOt
                  replace po := po.below hb po.lt
                  replace hO := hO.below hb
                  replace rn := rdNo_below rn hb
                  replace q := q.trans (hb.mono q.size)
                  clear hb
                  go_upto_region 26 with (refine wpList_sliceHi (by kernel_rfl) (by kernel_rfl) rfl rfl rfl rfl ?_ rfl (by omega))
                  have hL := hLJ
                  clear hLJ dk dn hcj hjn hwk hyl hcw
                  have hs := hL.i64
                  have hzl := hL.len
                  have poc0 := po.cell0
                  have poc1 := po.cell1
                  go_wp2_with fail
                  refine (walC.texts _ rn.rd (Nat.le_refl _) (by omega) hs).mono ?_
                  rintro e vT ⟨at', kt, ct, rfl, hOt, hb⟩
                  rw [hL.texts] at hOt
                  obtain rfl := hOt.len
                  have rt := hOt.rows
                  have qt := Below.refl vT.heap.size vT
                  clear hOt poc0 poc1
                  replace po := po.below hb po.lt
                  replace hO := hO.below hb
                  replace rn := rdNo_below rn hb
                  replace q := q.trans (hb.mono q.size)
                  clear hb
                  go_wp2_with fail
                  refine (same_any _ rt qt hO.rows (Below.refl _ _)).mono ?_
                  rw [decide_eq_true (show want2 = want2 from rfl)]
                  rintro e vS ⟨rfl, hb⟩
                  replace po := po.below hb po.lt
                  replace hO := hO.below hb
                  replace rn := rdNo_below rn hb
                  replace q := q.trans (hb.mono q.size)
                  clear hb rt qt
                  have poc0 := po.cell0
                  have poc1 := po.cell1
                  go_wp2_with fail
                  refine (walC.check _ rn.rd (Nat.le_refl _) (by omega) hs).mono ?_
                  rw [decide_eq_true hL.ok]
                  rintro e vC ⟨rfl, hb⟩
                  clear poc0 poc1
                  replace po := po.below hb po.lt
                  replace hO := hO.below hb
                  replace rn := rdNo_below rn hb
                  replace q := q.trans (hb.mono q.size)
                  clear hb
                  go_wp2_with fail
                  go_roundw
                  case rel => exact ⟨k + 1, want2.length, want2, _, _, _, _, _, cs, sj, rfl, rfl, by go_num, by omega, by omega, by omega, hL, hO, po, rn, q⟩
                  case measure => simp [intOf]; omega
              · have dC : decide ((k : Int) < us.length) = false := by rw [decide_eq_false_iff_not]; omega
                go_upto_region 26 with (fail)
                have hs := hL.i64
                have hzl := hL.len
                have poc0 := po.cell0
                have poc1 := po.cell1
                go_wp2_with fail
                refine (walC.texts _ rn.rd (Nat.le_refl _) (by omega) hs).mono ?_
                rintro e vT ⟨at', kt, ct, rfl, hOt, hb⟩
                rw [hL.texts] at hOt
                obtain rfl := hOt.len
                have rt := hOt.rows
                have qt := Below.refl vT.heap.size vT
                clear hOt poc0 poc1
                replace po := po.below hb po.lt
                replace hO := hO.below hb
                replace rn := rdNo_below rn hb
                replace q := q.trans (hb.mono q.size)
                clear hb
                go_wp2_with fail
                refine (same_any _ rt qt hO.rows (Below.refl _ _)).mono ?_
                rw [decide_eq_true (show want = want from rfl)]
                rintro e vS ⟨rfl, hb⟩
                replace po := po.below hb po.lt
                replace hO := hO.below hb
                replace rn := rdNo_below rn hb
                replace q := q.trans (hb.mono q.size)
                clear hb rt qt
                have poc0 := po.cell0
                have poc1 := po.cell1
                go_wp2_with fail
                refine (walC.check _ rn.rd (Nat.le_refl _) (by omega) hs).mono ?_
                rw [decide_eq_true hL.ok]
                rintro e vC ⟨rfl, hb⟩
                clear poc0 poc1
                replace po := po.below hb po.lt
                replace hO := hO.below hb
                replace rn := rdNo_below rn hb
                replace q := q.trans (hb.mono q.size)
                clear hb
                go_wp2_with fail
                go_roundw
                case rel => exact ⟨k + 1, y, want, _, _, _, _, _, zs, s, rfl, rfl, by go_num, by omega, by omega, by omega, hL, hO, po, rn, q⟩
                case measure => simp [intOf]; omega
        · have d3 : decide ((k : Int) < 30) = false := by rw [decide_eq_false_iff_not]; omega
          go_wp2_with fail
          go_ret
          exact ⟨rfl, q⟩
      · have d2 : decide ((k : Int) < ks.length) = false := by rw [decide_eq_false_iff_not]; omega
        go_wp2_with fail
        go_ret
        exact ⟨rfl, q⟩
    · obtain rfl : k = tss.length := by omega
      go_wp2_with fail
      go_ret
      exact ⟨rfl, q⟩
end Go.Proofs.Ytebilecgmblmfaa
