/-
  TEXTS OF ONE PROOF, merged: ReadsBothW.
-/
import Derived.Test.YtmcleffpjfeegaaRk9
namespace Go.Proofs.Ytmcleffpjfeegaa
open Go.RowKit Go.Shelf
def pSl (n0 : Nat) (l : List Ps) : SGn (fun A B => Below n0 A B) := ⟨fun w v => ∃ a c, v = .slice a l.length c ∧ RdL Elt.ps (· < n0) w (.slice a l.length c) l, fun _ _ _ ⟨a, c, e, h⟩ hb => ⟨a, c, e, h.below hb⟩, fun _ _ _ ⟨a, c, e, h⟩ hk => ⟨a, c, e, h.keep fun k hk2 => hk.block k hk2⟩⟩
theorem pSl.mk {n0 : Nat} {l : List Ps} {w : World} {a : Option Addr} {n c : Nat} (h : RdL Elt.ps (· < n0) w (.slice a n c) l) : (pSl n0 l).1 w (.slice a n c) := by
  obtain ⟨rfl, _, _⟩ := h.len
  exact ⟨a, c, rfl, h⟩
def BtJ (n0 : Nat) (W : World) (A0 A1 A2 : List Ps) : List Value → World → Prop
  | [], X => Below n0 W X
  | [v0], X => Below n0 W X ∧ ∃ a c, v0 = .slice a A0.length c ∧ RdL Elt.ps (· < X.heap.size) X (.slice a A0.length c) A0
  | [v0, v1], X => Below n0 W X ∧ ∃ a c a1 c1 M, v0 = .slice a A0.length c ∧ v1 = .slice a1 A1.length c1 ∧ (n0 ≤ M ∧ M ≤ X.heap.size) ∧ RdL Elt.ps (· < M) X (.slice a A0.length c) A0 ∧ OwnL Elt.ps 49 M M X (.slice a1 A1.length c1) A1
  | [v0, v1, v2], X => Below n0 W X ∧ ∃ a c a1 c1 a2 c2 M M2, v0 = .slice a A0.length c ∧ v1 = .slice a1 A1.length c1 ∧ v2 = .slice a2 A2.length c2 ∧ (n0 ≤ M ∧ M ≤ X.heap.size) ∧ RdL Elt.ps (· < M) X (.slice a A0.length c) A0 ∧ OwnL Elt.ps 49 M M X (.slice a1 A1.length c1) A1 ∧ (∀ g, (Value.slice a1 A1.length c1).ownBlock = some g → g < M2) ∧ RdL Elt.ps (fun k => M2 ≤ k ∧ k < X.heap.size) X (.slice a2 A2.length c2) A2
  | [v0, _, _, v3], X => Below n0 W X ∧ ∃ a c a3 c3, v0 = .slice a A0.length c ∧ v3 = .slice a3 (A1 ++ A2).length c3 ∧ RdL Elt.ps (fun _ => True) X (.slice a A0.length c) A0 ∧ RdL Elt.ps (fun _ => True) X (.slice a3 (A1 ++ A2).length c3) (A1 ++ A2)
  | _ :: _ :: _ :: _ :: v4 :: _, X => Below n0 W X ∧ v4 = .bool true
theorem BtJ.bel {n0 : Nat} {W : World} {A0 A1 A2 : List Ps} : ∀ {l : List Value} {X : World}, BtJ n0 W A0 A1 A2 l X → Below n0 W X
  | [], _, h => h
  | [_], _, h => h.1
  | [_, _], _, h => h.1
  | [_, _, _], _, h => h.1
  | [_, _, _, _], _, h => h.1
  | _ :: _ :: _ :: _ :: _ :: _, _, h => h.1
theorem BtJ.below {n0 : Nat} {W : World} {A0 A1 A2 : List Ps} (hn : n0 ≤ W.heap.size) : ∀ (l : List Value) (X X' : World), BtJ n0 W A0 A1 A2 l X → Below X.heap.size X X' → BtJ n0 W A0 A1 A2 l X'
  | [], _, _, h, hb => Below.trans h (hb.mono (Nat.le_trans hn (Below.size h)))
  | [_], _, _, ⟨h, a, c, e, h1⟩, hb => ⟨h.trans (hb.mono (Nat.le_trans hn h.size)), a, c, e, (h1.below hb).weak fun _ hk => Nat.lt_of_lt_of_le hk hb.size⟩
  | [_, _], _, _, ⟨h, a, c, a1, c1, M, e, e1, hM, h1, h2⟩, hb => ⟨h.trans (hb.mono (Nat.le_trans hn h.size)), a, c, a1, c1, M, e, e1, ⟨hM.1, Nat.le_trans hM.2 hb.size⟩, h1.below hb, h2.below hb⟩
  | [_, _, _], _, _, ⟨h, a, c, a1, c1, a2, c2, M, M2, e, e1, e2, hM, h1, h2, h3, h4⟩, hb => ⟨h.trans (hb.mono (Nat.le_trans hn h.size)), a, c, a1, c1, a2, c2, M, M2, e, e1, e2, ⟨hM.1, Nat.le_trans hM.2 hb.size⟩, h1.below hb, h2.below hb, h3, (h4.below hb).weak fun _ hk => ⟨hk.1, Nat.lt_of_lt_of_le hk.2 hb.size⟩⟩
  | [_, _, _, _], _, _, ⟨h, a, c, a1, c1, e, e1, h1, h2⟩, hb => ⟨h.trans (hb.mono (Nat.le_trans hn h.size)), a, c, a1, c1, e, e1, h1.below hb, h2.below hb⟩
  | _ :: _ :: _ :: _ :: _ :: _, _, _, ⟨h, e⟩, hb => ⟨h.trans (hb.mono (Nat.le_trans hn h.size)), e⟩
theorem hit_app (l m : List Sp) (ws : List Wr) : hitL (l ++ m) ws = (hitL l ws || hitL m ws) := by
  rw [hitL_ref, hitL_ref, hitL_ref, List.any_append]
theorem hit_app2 (l : List Sp) (a b : List Wr) : hitL l (a ++ b) = (hitL l a || hitL l b) := by
  unfold hitL
  rw [List.any_append]
set_option maxRecDepth 100000 in
set_option maxHeartbeats 32000000 in
theorem ReadsBoth_w (w : World) {l1 m1 r1 s1 p1 v1 : Option Addr} {l2 l3 m2 m3 r2 r3 s2 s3 p2 p3 v2 v3 : Nat} {l m : List Sp} {a b : List Wr} {P : List Ps} {V : List Lv} {c : Int} (h0 : RdL Elt.sp (· < w.heap.size) w (.slice l1 l2 l3) l) (h1 : RdL Elt.sp (· < w.heap.size) w (.slice m1 m2 m3) m) (h2 : RdL Elt.wr (· < w.heap.size) w (.slice r1 r2 r3) a) (h3 : RdL Elt.wr (· < w.heap.size) w (.slice s1 s2 s3) b) (h4 : RdL Elt.ps (· < w.heap.size) w (.slice p1 p2 p3) P) (h5 : RdL Elt.lv (· < w.heap.size) w (.slice v1 v2 v3) V) (hc0 : 0 ≤ c) (hc1 : c < 256) :
    Calls Try.prog 6 #[.slice l1 l2 l3, .slice m1 m2 m3, .slice r1 r2 r3, .slice s1 s2 s3, .slice p1 p2 p3, .slice v1 v2 v3, .int .u8 c] w fun e w' => e = .returned (.bool true) ∧ Below w.heap.size w w' := by
  have hls := h0
  obtain ⟨rfl, _, _⟩ := h0.len
  clear h0
  have hms := h1
  obtain ⟨rfl, _, _⟩ := h1.len
  clear h1
  have ha := h2
  obtain ⟨rfl, _, _⟩ := h2.len
  clear h2
  have hbb := h3
  obtain ⟨rfl, _, _⟩ := h3.len
  clear h3
  have hp := h4
  obtain ⟨rfl, _, _⟩ := h4.len
  clear h4
  have hv := h5
  obtain ⟨rfl, _, _⟩ := h5.len
  clear h5
  have q := Below.refl w.heap.size w
  go_enter Try.func6, Try.ntmps6
  go_upto_region 1 with (fail)
  go_wp2_with fail
  refine (awake13_any w).mono ?_
  rintro e w1 ⟨rfl, hb⟩
  replace q := q.trans (hb.mono q.size)
  clear hb
  have hcl := few13_any _ (hls.below q) (ha.below q) (hbb.below q)
  go_wp2_with fail
  refine hcl.mono ?_
  rintro e wq ⟨rfl, hb⟩
  clear hcl
  replace q := q.trans (hb.mono q.size)
  clear hb
  by_cases hf : fewS l ∧ fewD ⟨a, []⟩ ∧ fewD ⟨b, []⟩
  case neg =>
    rw [decide_eq_false hf]
    go_wp2_with fail
    go_ret
    exact ⟨rfl, q⟩
  rw [decide_eq_true hf]
  have hcl := rFew_any _ (hms.below q)
  go_wp2_with fail
  refine hcl.mono ?_
  rintro e wq ⟨rfl, hb⟩
  clear hcl
  replace q := q.trans (hb.mono q.size)
  clear hb
  by_cases hf2 : fewS m
  case neg =>
    rw [decide_eq_false hf2]
    go_wp2_with fail
    go_ret
    exact ⟨rfl, q⟩
  rw [decide_eq_true hf2]
  have hcl := rFewP_any _ (hp.below q) (hv.below q)
  go_wp2_with fail
  refine hcl.mono ?_
  rintro e wq ⟨rfl, hb⟩
  clear hcl
  replace q := q.trans (hb.mono q.size)
  clear hb
  by_cases hfp : fewPs P V
  case neg =>
    rw [decide_eq_false hfp]
    go_wp2_with fail
    go_ret
    exact ⟨rfl, q⟩
  rw [decide_eq_true hfp]
  have hps := few_sm hfp
  have hpl : P.length ≤ 30 := hfp.1
  have hll : l.length ≤ 100 := hf.1.1
  have hml : m.length ≤ 100 := hf2.1
  have hal : a.length ≤ 30 := hf.2.1.1
  have hbl : b.length ≤ 30 := hf.2.2.1
  clear hf hf2 hfp
  go_upto_region 4 with (fail)
  go_cut [16] from 39 to 54 (fun v wr => v = .bool true ∧ Below w.heap.size w wr)
  case first =>
    have hqs := q.size
    obtain ⟨t1, et1⟩ : ∃ t, t = hitL l a := ⟨_, rfl⟩
    obtain ⟨t2, et2⟩ : ∃ t, t = hitL m a := ⟨_, rfl⟩
    have hw : hitL (l ++ m) a = (t1 || t2) := by rw [et1, et2]; exact hit_app _ _ _
    replace hw := Lib.hid hw
    replace et1 := Lib.hid et1
    replace et2 := Lib.hid et2
    go_wp2_with (first
      | (refine wpList_buildZero (E := Elt.sp) spP rfl rfl ?_; intro wz hbz hOz)
      | (refine wpList_append_zeroL (E := Elt.sp) spP rfl rfl rfl (hOz.to (Nat.le_refl _) (Nat.zero_le _)) rfl (((hls.below q).below hbz).fit.weak fun k hk => hk.2) (fun k hk => ⟨Nat.zero_le _, hk⟩) hbz.size ?_ (by omega); intro z1 zn zc wy hOy hby; obtain rfl := hOy.len)
      | (refine wpList_appendRP (E := Elt.sp) spP rfl rfl rfl hOy rfl (((hms.below q).below hbz).below hby) (fun k hk => ⟨Nat.zero_le _, by have := hbz.size; have := hby.size; omega, fun e => by have := (hOy.block_lt k e.symm).1; omega⟩) (by have := hbz.size; have := hby.size; omega) ?_ (by omega); intro z2 zm zd wx hOx hgx; obtain rfl := hOx.len)
      | fail)
    have b1 := hbz.trans (hby.mono hbz.size)
    have b2 := b1.grown hgx b1.size fun k hk => (hOy.block_lt k hk).1
    have q2 := q.trans (b2.mono q.size)
    have rX : RdL Elt.sp (fun _ => True) wx (.slice z2 (l ++ m).length zd) (l ++ m) := hOx.rdL.weak fun _ _ => trivial
    clear hbz hOz hby hOy hOx hgx b1 b2 q hqs
    have q := q2
    clear q2
    have hcl := sHit_any _ rX (ha.below q)
    rw [hw.out, List.length_append] at hcl
    refine hcl.mono ?_
    rintro e wq ⟨rfl, hb⟩
    clear hcl rX
    replace q := q.trans (hb.mono q.size)
    clear hb
    have hcl := sHit_any _ (hls.below q) (ha.below q)
    rw [← et1.out] at hcl
    go_wp2_with fail
    refine hcl.mono ?_
    rintro e wq ⟨rfl, hb⟩
    clear hcl
    replace q := q.trans (hb.mono q.size)
    clear hb
    cases t1 with
    | true =>
      cases t2 with
      | true =>
        go_wp2_with fail
        go_meet
        exact ⟨rfl, q⟩
      | false =>
        go_wp2_with fail
        go_meet
        exact ⟨rfl, q⟩
    | false =>
      have hcl := sHit_any _ (hms.below q) (ha.below q)
      rw [← et2.out] at hcl
      go_wp2_with fail
      refine hcl.mono ?_
      rintro e wq ⟨rfl, hb⟩
      clear hcl
      replace q := q.trans (hb.mono q.size)
      clear hb
      cases t2 with
      | true =>
        go_wp2_with fail
        go_meet
        exact ⟨rfl, q⟩
      | false =>
        go_wp2_with fail
        go_meet
        exact ⟨rfl, q⟩
  case rest =>
  clear q
  obtain ⟨rfl, q⟩ := hcut
  go_upto_region 5 with (fail)
  go_cut [17] from 55 to 70 (fun v wr => v = .bool true ∧ Below w.heap.size w wr)
  case first =>
    have hqs := q.size
    obtain ⟨t1, et1⟩ : ∃ t, t = hitL l a := ⟨_, rfl⟩
    obtain ⟨t2, et2⟩ : ∃ t, t = hitL l b := ⟨_, rfl⟩
    have hw : hitL l (a ++ b) = (t1 || t2) := by rw [et1, et2]; exact hit_app2 _ _ _
    replace hw := Lib.hid hw
    replace et1 := Lib.hid et1
    replace et2 := Lib.hid et2
    go_wp2_with (first
      | (refine wpList_buildZero (E := Elt.wr) wrP rfl rfl ?_; intro wz hbz hOz)
      | (refine wpList_append_zeroL (E := Elt.wr) wrP rfl rfl rfl (hOz.to (Nat.le_refl _) (Nat.zero_le _)) rfl (((ha.below q).below hbz).fit.weak fun k hk => hk.2) (fun k hk => ⟨Nat.zero_le _, hk⟩) hbz.size ?_ (by omega); intro z1 zn zc wy hOy hby; obtain rfl := hOy.len)
      | (refine wpList_appendRP (E := Elt.wr) wrP rfl rfl rfl hOy rfl (((hbb.below q).below hbz).below hby) (fun k hk => ⟨Nat.zero_le _, by have := hbz.size; have := hby.size; omega, fun e => by have := (hOy.block_lt k e.symm).1; omega⟩) (by have := hbz.size; have := hby.size; omega) ?_ (by omega); intro z2 zm zd wx hOx hgx; obtain rfl := hOx.len)
      | fail)
    have b1 := hbz.trans (hby.mono hbz.size)
    have b2 := b1.grown hgx b1.size fun k hk => (hOy.block_lt k hk).1
    have q2 := q.trans (b2.mono q.size)
    have rX : RdL Elt.wr (fun _ => True) wx (.slice z2 (a ++ b).length zd) (a ++ b) := hOx.rdL.weak fun _ _ => trivial
    clear hbz hOz hby hOy hOx hgx b1 b2 q hqs
    have q := q2
    clear q2
    have hcl := sHit_any _ (hls.below q) rX
    rw [hw.out, List.length_append] at hcl
    refine hcl.mono ?_
    rintro e wq ⟨rfl, hb⟩
    clear hcl rX
    replace q := q.trans (hb.mono q.size)
    clear hb
    have hcl := sHit_any _ (hls.below q) (ha.below q)
    rw [← et1.out] at hcl
    go_wp2_with fail
    refine hcl.mono ?_
    rintro e wq ⟨rfl, hb⟩
    clear hcl
    replace q := q.trans (hb.mono q.size)
    clear hb
    cases t1 with
    | true =>
      cases t2 with
      | true =>
        go_wp2_with fail
        go_meet
        exact ⟨rfl, q⟩
      | false =>
        go_wp2_with fail
        go_meet
        exact ⟨rfl, q⟩
    | false =>
      have hcl := sHit_any _ (hls.below q) (hbb.below q)
      rw [← et2.out] at hcl
      go_wp2_with fail
      refine hcl.mono ?_
      rintro e wq ⟨rfl, hb⟩
      clear hcl
      replace q := q.trans (hb.mono q.size)
      clear hb
      cases t2 with
      | true =>
        go_wp2_with fail
        go_meet
        exact ⟨rfl, q⟩
      | false =>
        go_wp2_with fail
        go_meet
        exact ⟨rfl, q⟩
  case rest =>
  clear q
  obtain ⟨rfl, q⟩ := hcut
  obtain ⟨t3, et3⟩ : ∃ t, t = sameW a b := ⟨_, rfl⟩
  have et4 := sameW_comm b a
  rw [← et3] at et4
  replace et3 := Lib.hid et3
  replace et4 := Lib.hid et4
  have hcl := sSame_any _ (ha.below q) (hbb.below q)
  rw [← et3.out] at hcl
  go_wp2_with fail
  refine hcl.mono ?_
  rintro e wq ⟨rfl, hb⟩
  clear hcl
  replace q := q.trans (hb.mono q.size)
  clear hb
  have hcl := sSame_any _ (hbb.below q) (ha.below q)
  rw [et4.out] at hcl
  go_wp2_with fail
  refine hcl.mono ?_
  rintro e wq ⟨rfl, hb⟩
  clear hcl
  replace q := q.trans (hb.mono q.size)
  clear hb
  have dt3 : (t3 == t3) = true := beq_self_eq_true t3
  go_upto_region 8 with (fail)
  obtain ⟨n, hn, hnl⟩ : ∃ n : Nat, c % ((P.length : Int) + 1) = (n : Int) ∧ n ≤ P.length := ⟨(c % ((P.length : Int) + 1)).toNat, by have := Int.emod_nonneg c (show (P.length : Int) + 1 ≠ 0 by omega); omega, by have := Int.emod_lt_of_pos c (show (0 : Int) < (P.length : Int) + 1 by omega); omega⟩
  rw [hn]
  clear hn
  have hpr : ∀ X, Below w.heap.size wq X → RdL Elt.ps (· < w.heap.size) X (.slice p1 P.length p3) P := fun X h => hp.keep fun k hk => (q.trans h).block k hk
  have hvr : ∀ X, Below w.heap.size wq X → RdL Elt.lv (· < w.heap.size) X (.slice v1 V.length v3) V := fun X h => hv.keep fun k hk => (q.trans h).block k hk
  have hqs := q.size
  have hpc := hp.len.2.1
  have eK : ∀ args w, (callFunc 14 args).run Try.prog w = .ok (.enter 14 args) w := enters_of Try.func14 (by kernel_rfl) rfl
  have eA : ∀ args w, (callFunc 13 args).run Try.prog w = .ok (.enter 13 args) w := enters_of Try.func13 (by kernel_rfl) rfl
  have hs1 : smPs (P.take n) := ⟨by rw [List.length_take]; omega, fun p hp => hps.2 p (List.mem_of_mem_take hp)⟩
  have hs2 : smPs (P.drop n) := ⟨by rw [List.length_drop]; omega, fun p hp => hps.2 p (List.mem_of_mem_drop hp)⟩
  have happ := Lib.hid (show keepP P V = keepP (P.take n) V ++ keepP (P.drop n) V by rw [← keepP_append, List.take_append_drop])
  obtain ⟨K0, eK0⟩ : ∃ L, L = keepP P V := ⟨_, rfl⟩
  obtain ⟨K1, eK1⟩ : ∃ L, L = keepP (P.take n) V := ⟨_, rfl⟩
  obtain ⟨K2, eK2⟩ : ∃ L, L = keepP (P.drop n) V := ⟨_, rfl⟩
  have hk1 : K1.length ≤ 30 := by rw [eK1]; exact Nat.le_trans (keepP_len _ _) (by rw [List.length_take]; omega)
  have hk2 : K2.length ≤ 30 := by rw [eK2]; exact Nat.le_trans (keepP_len _ _) (by rw [List.length_drop]; omega)
  rw [← eK0, ← eK1, ← eK2] at happ
  replace eK0 := Lib.hid eK0
  replace eK1 := Lib.hid eK1
  replace eK2 := Lib.hid eK2
  refine wp_region_lnl (K := fun A B => Below w.heap.size A B) (by kernel_rfl) (by kernel_rfl) [2, 7, 12, 13, 14] (by kernel_rfl) [lEq (.slice p1 P.length p3), lEq (.slice v1 V.length v3), lAny, lEq (.slice p1 P.length p3), lEq (.int .i64 (n : Int)), pSl w.heap.size (P.take n), lEq (.slice v1 V.length v3), lAny, lEq (.slice p1 P.length p3), lEq (.int .i64 (n : Int)), pSl w.heap.size (P.drop n), lEq (.slice v1 V.length v3), lAny, lAny, lAny, lEq (.bool true)] (BtJ w.heap.size wq K0 K1 K2) (BtJ.below hqs) (show Below w.heap.size wq wq from Below.refl _ _)
    ⟨?o0, ?o1, ?o2, ?o3, ?o4, ?o5, ?o6, ?o7, ?o8, ?o9, ?o10, ?o11, ?o12, ?o13, ?o14, ?o15, trivial⟩ ?fin
  case o0 =>
    refine LnOp.side rfl (by kernel_rfl) (fun A va w' k hF hT hk hJ hb hu hp' hd => ?_)
    have e1 : A.eval (.tmp 4) = .slice p1 P.length p3 := hF 4 rfl
    exact BigFrame.wp_move _ rfl ⟨_, rfl, e1, Below.refl _ _⟩
  case o1 =>
    refine LnOp.side rfl (by kernel_rfl) (fun A va w' k hF hT hk hJ hb hu hp' hd => ?_)
    have e1 : A.eval (.tmp 5) = .slice v1 V.length v3 := hF 5 rfl
    exact BigFrame.wp_move _ rfl ⟨_, rfl, e1, Below.refl _ _⟩
  case o2 =>
    refine LnOp.line 0 rfl rfl (fun A va w' hF hT hJ hu hd => ?_)
    have e1 : A.eval (.tmp 84) = .slice p1 P.length p3 := (hT 84 0 (by simp) rfl).trans (hd ⟨0, .data⟩ (by simp) rfl rfl)
    have e2 : A.eval (.tmp 85) = .slice v1 V.length v3 := (hT 85 1 (by simp) rfl).trans (hd ⟨1, .data⟩ (by simp) rfl rfl)
    have hJ0 : Below w.heap.size wq w' := hJ
    have hcl := sKeep_any w' (hpr w' hJ0) (hvr w' hJ0) hps
    rw [← eK0.out] at hcl
    refine wp_callFn rfl eK (args := #[.slice p1 P.length p3, .slice v1 V.length v3]) (by simp only [List.map_toArray, List.map_cons, List.map_nil, e1, e2]) (hcl.mono ?_)
    rintro e w2 ⟨z1, z2, rfl, hO, hb2⟩
    have hs := hJ0.size
    exact ⟨_, rfl, _, rfl, ⟨hJ0.trans (hb2.mono (by omega)), z1, z2, rfl, hO.rdS fun k _ hk => hk⟩, hb2.mono (by omega)⟩
  case o3 =>
    refine LnOp.side rfl (by kernel_rfl) (fun A va w' k hF hT hk hJ hb hu hp' hd => ?_)
    have e1 : A.eval (.tmp 4) = .slice p1 P.length p3 := hF 4 rfl
    exact BigFrame.wp_move _ rfl ⟨_, rfl, e1, Below.refl _ _⟩
  case o4 =>
    refine LnOp.side rfl (by kernel_rfl) (fun A va w' k hF hT hk hJ hb hu hp' hd => ?_)
    have e1 : A.eval (.tmp 19) = .int .i64 (n : Int) := hF 19 rfl
    exact BigFrame.wp_move _ rfl ⟨_, rfl, e1, Below.refl _ _⟩
  case o5 =>
    refine LnOp.side rfl (by kernel_rfl) (fun A va w' k hF hT hk hJ hb hu hp' hd => ?_)
    have e1 : A.eval (.tmp 87) = .slice p1 P.length p3 := (hT 87 3 (by simp) rfl).trans (hd ⟨3, .data⟩ (by simp) rfl rfl)
    have e2 : A.eval (.tmp 88) = .int .i64 (n : Int) := (hT 88 4 (by simp) rfl).trans (hd ⟨4, .data⟩ (by simp) rfl rfl)
    exact wp_sliceL psP.toLsP rfl e1 (hpr w' (BtJ.bel hJ)) rfl (by simp [e2]) (run_bounds_h' _ (h := n) rfl (by omega)) (fun ad9 c9 h9 => ⟨_, rfl, pSl.mk (by simpa using h9), Below.refl _ _⟩) (Nat.zero_le _) hnl
  case o6 =>
    refine LnOp.side rfl (by kernel_rfl) (fun A va w' k hF hT hk hJ hb hu hp' hd => ?_)
    have e1 : A.eval (.tmp 5) = .slice v1 V.length v3 := hF 5 rfl
    exact BigFrame.wp_move _ rfl ⟨_, rfl, e1, Below.refl _ _⟩
  case o7 =>
    refine LnOp.line 1 rfl rfl (fun A va w' hF hT hJ hu hd => ?_)
    have x1 : A.eval (.tmp 89) = va 5 := hT 89 5 (by simp) rfl
    have y1 := hd ⟨5, .data⟩ (by simp) rfl rfl
    have e2 : A.eval (.tmp 90) = .slice v1 V.length v3 := (hT 90 6 (by simp) rfl).trans (hd ⟨6, .data⟩ (by simp) rfl rfl)
    obtain ⟨hJ0, z1, z2, ez, hr0⟩ : BtJ w.heap.size wq K0 K1 K2 [va 2] w' := hJ
    obtain ⟨b1, b2, eb, hrb⟩ := y1
    have hs := hJ0.size
    have hcl := sKeep_any w' hrb (hvr w' hJ0) hs1
    rw [← eK1.out] at hcl
    refine wp_callFn rfl eK (args := #[.slice b1 (P.take n).length b2, .slice v1 V.length v3]) (by simp only [List.map_toArray, List.map_cons, List.map_nil, x1, eb, e2]) (hcl.mono ?_)
    rintro e w2 ⟨z3, z4, rfl, hO, hb2⟩
    exact ⟨_, rfl, _, rfl, ⟨hJ0.trans (hb2.mono (by omega)), z1, z2, z3, z4, w'.heap.size, ez, rfl, ⟨by omega, hb2.size⟩, hr0.below hb2, hO⟩, hb2.mono (by omega)⟩
  case o8 =>
    refine LnOp.side rfl (by kernel_rfl) (fun A va w' k hF hT hk hJ hb hu hp' hd => ?_)
    have e1 : A.eval (.tmp 4) = .slice p1 P.length p3 := hF 4 rfl
    exact BigFrame.wp_move _ rfl ⟨_, rfl, e1, Below.refl _ _⟩
  case o9 =>
    refine LnOp.side rfl (by kernel_rfl) (fun A va w' k hF hT hk hJ hb hu hp' hd => ?_)
    have e1 : A.eval (.tmp 19) = .int .i64 (n : Int) := hF 19 rfl
    exact BigFrame.wp_move _ rfl ⟨_, rfl, e1, Below.refl _ _⟩
  case o10 =>
    refine LnOp.side rfl (by kernel_rfl) (fun A va w' k hF hT hk hJ hb hu hp' hd => ?_)
    have e1 : A.eval (.tmp 92) = .slice p1 P.length p3 := (hT 92 8 (by simp) rfl).trans (hd ⟨8, .data⟩ (by simp) rfl rfl)
    have e2 : A.eval (.tmp 93) = .int .i64 (n : Int) := (hT 93 9 (by simp) rfl).trans (hd ⟨9, .data⟩ (by simp) rfl rfl)
    exact wp_sliceL psP.toLsP rfl e1 (hpr w' (BtJ.bel hJ)) (by simp [e2]) rfl (run_bounds_l' _ (l := n) rfl hnl) (fun ad9 c9 h9 => ⟨_, rfl, pSl.mk (by have := h9; rwa [← List.length_drop, List.take_length, List.length_drop] at this), Below.refl _ _⟩) hnl (Nat.le_refl _)
  case o11 =>
    refine LnOp.side rfl (by kernel_rfl) (fun A va w' k hF hT hk hJ hb hu hp' hd => ?_)
    have e1 : A.eval (.tmp 5) = .slice v1 V.length v3 := hF 5 rfl
    exact BigFrame.wp_move _ rfl ⟨_, rfl, e1, Below.refl _ _⟩
  case o12 =>
    refine LnOp.line 2 rfl rfl (fun A va w' hF hT hJ hu hd => ?_)
    have x1 : A.eval (.tmp 94) = va 10 := hT 94 10 (by simp) rfl
    have y1 := hd ⟨10, .data⟩ (by simp) rfl rfl
    have e2 : A.eval (.tmp 95) = .slice v1 V.length v3 := (hT 95 11 (by simp) rfl).trans (hd ⟨11, .data⟩ (by simp) rfl rfl)
    obtain ⟨hJ0, z1, z2, z3, z4, M, ez, ez3, hM, hr0, hO1⟩ : BtJ w.heap.size wq K0 K1 K2 [va 2, va 7] w' := hJ
    obtain ⟨b1, b2, eb, hrb⟩ := y1
    have hs := hJ0.size
    have hcl := sKeep_any w' hrb (hvr w' hJ0) hs2
    rw [← eK2.out] at hcl
    refine wp_callFn rfl eK (args := #[.slice b1 (P.drop n).length b2, .slice v1 V.length v3]) (by simp only [List.map_toArray, List.map_cons, List.map_nil, x1, eb, e2]) (hcl.mono ?_)
    rintro e w2 ⟨z5, z6, rfl, hO, hb2⟩
    have hs2 := hb2.size
    exact ⟨_, rfl, _, rfl, ⟨hJ0.trans (hb2.mono (by omega)), z1, z2, z3, z4, z5, z6, M, w'.heap.size, ez, ez3, rfl, ⟨hM.1, by omega⟩, hr0.below hb2, hO1.below hb2, fun g hg => (hO1.block_lt g hg).2, hO.rdS fun k hk hl => ⟨by omega, hl⟩⟩, hb2.mono (by omega)⟩
  case o13 =>
    refine LnOp.line 3 rfl rfl (fun A va w' hF hT hJ hu hd => ?_)
    have x1 : A.eval (.tmp 91) = va 7 := hT 91 7 (by simp) rfl
    have x2 : A.eval (.tmp 96) = va 12 := hT 96 12 (by simp) rfl
    obtain ⟨hJ0, z1, z2, z3, z4, z5, z6, M, M2, ez, ez3, ez5, hM, hr0, hO1, hM2, hr2⟩ : BtJ w.heap.size wq K0 K1 K2 [va 2, va 7, va 12] w' := hJ
    have hs := hJ0.size
    have hMl := fun g hg => (hO1.block_lt g hg).1
    refine wp_appendRP psP rfl (x1.trans ez3) (hO1.to (Nat.le_refl _) (Nat.zero_le _)) (x2.trans ez5) hr2 (fun k hk => ⟨Nat.zero_le _, hk.2, fun e => by have := hM2 k e.symm; have := hk.1; omega⟩) (by omega) (fun z7 z8 z9 w2 hO hg => ?_) (by omega)
    obtain rfl := hO.len
    have hb : Below w.heap.size w' w2 := ⟨hg.os, hg.tape, hg.output, hg.size, fun k hk => hg.block k (by omega) fun e => by have := hMl k e.symm; omega⟩
    exact ⟨_, rfl, ⟨hJ0.trans hb, z1, z2, z7, z9, ez, rfl, (hr0.fit.keep fun k hk => hg.block k hk.2 fun e => by have := hMl k e.symm; have := hk.1; omega).weak fun _ _ => trivial, hO.rdL.weak fun _ _ => trivial⟩, hb⟩
  case o14 =>
    refine LnOp.line 4 rfl rfl (fun A va w' hF hT hJ hu hd => ?_)
    have x1 : A.eval (.tmp 86) = va 2 := hT 86 2 (by simp) rfl
    have x2 : A.eval (.tmp 97) = va 13 := hT 97 13 (by simp) rfl
    obtain ⟨hJ0, z1, z2, z7, z9, ez, ez7, hr0, hr7⟩ : BtJ w.heap.size wq K0 K1 K2 [va 2, va 7, va 12, va 13] w' := hJ
    have hs := hJ0.size
    have hcl := rAllP_any w' hr0 hr7
    rw [decide_eq_true happ.out] at hcl
    refine wp_callFn rfl eA (args := #[.slice z1 K0.length z2, .slice z7 (K1 ++ K2).length z9]) (by simp only [List.map_toArray, List.map_cons, List.map_nil, x1.trans ez, x2.trans ez7]) (hcl.mono ?_)
    rintro e w2 ⟨rfl, hb2⟩
    exact ⟨_, rfl, _, rfl, ⟨hJ0.trans (hb2.mono (by omega)), rfl⟩, hb2.mono (by omega)⟩
  case o15 =>
    refine LnOp.side rfl (by kernel_rfl) (fun A va w' k hF hT hk hJ hb hu hp' hd => ?_)
    have x1 : A.eval (.tmp 98) = va 14 := hT 98 14 (by simp) rfl
    obtain rfl : k = 5 := by
      have h1 := hp' ⟨14, .data⟩ (by simp) rfl 4 rfl
      have h2 := hk
      simp at h2
      omega
    obtain ⟨_, e14⟩ : BtJ w.heap.size wq K0 K1 K2 [va 2, va 7, va 12, va 13, va 14] w' := hJ
    exact BigFrame.wp_assign _ rfl ⟨_, rfl, x1.trans e14, Below.refl _ _⟩
  case fin =>
  intro vs1 W9 hJ hG
  obtain ⟨hb9, e14⟩ : BtJ w.heap.size wq K0 K1 K2 [vs1 2, vs1 7, vs1 12, vs1 13, vs1 14] W9 := hJ
  have e15 : vs1 15 = .bool true := hG 15 (by decide) rfl
  simp only [putAll, e15]
  replace q := q.trans hb9
  clear hG e14 e15 hb9 hpr hvr
  go_simp
  go_wp2_with fail
  go_ret
  exact ⟨rfl, q⟩
end Go.Proofs.Ytmcleffpjfeegaa
