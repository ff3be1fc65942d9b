/-
  THE WALKS OF THE DOCUMENT's ANSWER FOR wal, GOING ON: Texts, Same, Append. Slices of at most a million bytes; at most a thousand texts.
-/
import Derived.WalkKit
import Derived.WalkSpells
import Derived.WalkLawsBesides
import Derived.Lib.Hide
import Derived.Deep.Cut
import Derived.Test.YtebilecgmblmfaaProg
import Derived.Test.YtebilecgmblmfaaByte
import Derived.Test.YtebilecgmblmfaaAux
import Derived.Test.YtebilecgmblmfaaRyo
import Derived.Test.YtebilecgmblmfaaKept
import Derived.Test.YtebilecgmblmfaaFrmD
import Derived.Test.YtebilecgmblmfaaFrmG
import Derived.Test.YtebilecgmblmfaaWalM
import Derived.Test.YtebilecgmblmfaaWalR
namespace Go.Proofs.Ytebilecgmblmfaa
open Go.RowKit

/-- What a call that tells a log's texts hands back. -/
def TextsEnd (w : World) (bs : List UInt8) (s : Int) (e : Ending) (w' : World) : Prop :=
  ∃ ad k c, e = .returned (.slice ad k c) ∧ OwnR 22 w.heap.size w' (.slice ad k c) (textsS bs s) ∧ Below w.heap.size w w'

set_option maxRecDepth 100000 in
set_option maxHeartbeats 1000000 in
theorem refTexts_any (w : World) {B : Nat} {a : Option Addr} {n c : Nat} {bs : List UInt8} {s : Int} (hr : Rd B w (.slice a n c) bs) (hB : B ≤ w.heap.size) (hx : bs.length ≤ 1000000) :
    Calls Try.prog 22 #[.agg #[.slice a n c, .int .i64 s]] w (TextsEnd w bs s) := by
  obtain ⟨rfl, hnc, hcm⟩ := hr.len
  have pl := PairV.new w 24 (.slice a bs.length c) (.int .i64 s)
  have q : Below w.heap.size w (w.alloc (.cells #[.slice a bs.length c, .int .i64 s] 24)) := (Below.refl _ _).alloc (Nat.le_refl _) _
  go_enter Try.func22, Try.ntmps22
  go_wp2_with fail
  generalize w.alloc (.cells #[.slice a bs.length c, .int .i64 s] 24) = W at *
  refine (refCheck_any W (hr.below (q.mono hB))).mono ?_
  rintro e w2 ⟨rfl, hb2⟩
  replace pl := pl.below hb2 pl.lt
  replace q := q.trans (hb2.mono q.size)
  clear hb2
  have l0 := pl.cell0
  have l1 := pl.cell1
  by_cases hk : okL bs s
  · have hd : decide (okL bs s) = true := decide_eq_true hk
    have HN := Lib.hid (show textsS bs s = textsF bs by unfold textsS; rw [if_pos hk])
    rw [hd]
    clear hk hd
    go_wp2_with fail
    refine (refAll_any _ (hr.below (q.mono hB)) (Nat.le_trans hB q.size) hx).mono ?_
    rintro e w3 ⟨a3, c3, rfl, hO, hb3⟩
    go_wp2_with fail
    go_ret
    refine ⟨a3, (textsF bs).length, c3, rfl, ?_, q.trans (hb3.mono q.size)⟩
    rw [HN.out]
    exact hO.to q.size
  · have hd : decide (okL bs s) = false := decide_eq_false hk
    have HN := Lib.hid (show textsS bs s = [] by unfold textsS; rw [if_neg hk])
    rw [hd]
    clear hk hd
    go_wp2_with fail
    go_ret
    exact ⟨none, 0, 0, rfl, by rw [HN.out]; exact OwnR.nil _ _ _, q⟩

set_option maxRecDepth 100000 in
set_option maxHeartbeats 1000000 in
theorem refSameL_any (w : World) {B B' : Nat} {a a' : Option Addr} {n c n' c' : Nat} {bs bs' : List UInt8} {s s' : Int} (hr : Rd B w (.slice a n c) bs) (hB : B ≤ w.heap.size) (hr' : Rd B' w (.slice a' n' c') bs') (hB' : B' ≤ w.heap.size) :
    Calls Try.prog 13 #[.agg #[.slice a n c, .int .i64 s], .agg #[.slice a' n' c', .int .i64 s']] w fun e w' => e = .returned (.bool (decide (bs = bs' ∧ s = s'))) ∧ Below w.heap.size w w' := by
  have hb2 := box2 w 24 (.slice a n c) (.int .i64 s) (.slice a' n' c') (.int .i64 s')
  obtain ⟨pl, pr, q, hsz⟩ := hb2
  have r1 := hr.below (q.mono hB)
  have r2 := hr'.below (q.mono hB')
  by_cases h1 : bs = bs'
  · subst h1
    by_cases h2 : s = s'
    · subst h2
      go_enter Try.func13, Try.ntmps13
      go_wp2_with (first
        | (refine wpList_conv byP rfl rfl rfl r1 ?_)
        | (refine wpList_conv byP rfl rfl rfl r2 ?_))
      go_ret
      exact ⟨rfl, q⟩
    · have H2 := Lib.hid h2
      have h3 : (s == s') = false := by simpa using h2
      clear h2
      go_enter Try.func13, Try.ntmps13
      go_wp2_with (first
        | (refine wpList_conv byP rfl rfl rfl r1 ?_)
        | (refine wpList_conv byP rfl rfl rfl r2 ?_))
      go_ret
      exact ⟨by rw [show decide (True ∧ s = s') = false from decide_eq_false (fun h => H2.out h.2)]; rfl, q⟩
  · have hd := Lib.hid (show decide (bs = bs' ∧ s = s') = false by simp [h1])
    have h3 := strEq h1
    clear h1
    go_enter Try.func13, Try.ntmps13
    go_wp2_with (first
      | (refine wpList_conv byP rfl rfl rfl r1 ?_)
      | (refine wpList_conv byP rfl rfl rfl r2 ?_))
    go_ret
    exact ⟨by rw [hd.out]; rfl, q⟩

theorem pair_apart {E t : TypeId} {base b : Nat} {w w' : World} {v x y : Value} {xs : List UInt8} (hE : E ≠ t) (hp : PairV w b t x y) (hO : Own E base w v xs) (hg : w.grownBy w' v.ownBlock) : PairV w' b t x y := by
  refine (hg.block b hp.lt ?_).trans hp
  intro e
  obtain ⟨n, h⟩ := hO
  rcases h.2 with ⟨rfl, _⟩ | ⟨g2, cap, cur, rfl, _, hg2, _⟩
  · simp [Value.ownBlock] at e
  · obtain rfl : b = g2 := by simpa [Value.ownBlock] using e
    rw [show w.heap[b]? = _ from hp] at hg2
    injection hg2 with h1
    injection h1 with _ h2
    exact hE h2.symm
/-- What an append hands back. -/
def AppEnd (w : World) (bs : List UInt8) (s : Int) (tss : List (List UInt8)) (e : Ending) (w' : World) : Prop :=
  ∃ a k c, e = .returned (.tuple #[.agg #[.slice a k c, .int .i64 s], .int .i64 ((appS bs s tss).2 : Nat)]) ∧ Rd w'.heap.size w' (.slice a k c) (appS bs s tss).1 ∧ Below w.heap.size w w'
theorem app_ret {w W : World} {g : Nat} {a : Option Addr} {k c : Nat} {bs zs : List UInt8} {s : Int} {tss : List (List UInt8)} {er : Nat} {fn : Func} {act : Act} {x y : Value} (hp : PairV W g 24 x y) (hx : NotU8 x) (hy : NotU8 y) (hr : Rd W.heap.size W (.slice a k c) zs) (hq : Below w.heap.size w W) (hg : w.heap.size ≤ g) (hA : appS bs s tss = (zs, er)) (hd : act.defers = [])
    (hres : PairV ((W.setCell ⟨g, 0, none⟩ (.slice a k c)).setCell ⟨g, 1, none⟩ (.int .i64 s)) g 24 (.slice a k c) (.int .i64 s) → (results fn act.tmps).run Try.prog ((W.setCell ⟨g, 0, none⟩ (.slice a k c)).setCell ⟨g, 1, none⟩ (.int .i64 s)) = .ok (.tuple #[.agg #[.slice a k c, .int .i64 s], .int .i64 er]) ((W.setCell ⟨g, 0, none⟩ (.slice a k c)).setCell ⟨g, 1, none⟩ (.int .i64 s))) :
    bodyPost Try.prog fn (AppEnd w bs s tss) Exit.ret act ((W.setCell ⟨g, 0, none⟩ (.slice a k c)).setCell ⟨g, 1, none⟩ (.int .i64 s)) := by
  have p0 := hp.put0 (.slice a k c)
  refine bodyPost_ret (hres (p0.put1 _)) hd ⟨a, k, c, by rw [hA], ?_, (hq.setCell (p := ⟨g, 0, none⟩) hg _).setCell (p := ⟨g, 1, none⟩) hg _⟩
  have r0 := rd_set hr (Nat.le_refl _) hp hx hy 0 (.slice a k c)
  have r1 := rd_set r0 (by rw [size_set]; exact Nat.le_refl _) p0 (notU8_slice _ _ _) hy 1 (.int .i64 s)
  rw [size_set, size_set, hA]
  exact r1
theorem framesB_take_le (xss : List (List UInt8)) (k : Nat) (h : ∀ t ∈ xss, t.length ≤ 2000) : (framesB (xss.take k)).length ≤ 2006 * k := by
  induction k with
  | zero => simp [framesB]
  | succ k ih =>
    rcases Nat.lt_or_ge k xss.length with hlt | hge
    · rw [List.take_succ_eq_append_getElem hlt, framesB_append, List.length_append, show framesB [xss[k]] = frameB xss[k] by simp [framesB]]
      have h1 := h _ (List.getElem_mem hlt)
      have := (frameB_le h1).2
      omega
    · rw [List.take_of_length_le (by omega)] at ih ⊢
      omega

set_option maxRecDepth 100000 in
set_option maxHeartbeats 2000000 in
theorem refApp_any (w : World) {B : Nat} {a : Option Addr} {n c : Nat} {bs : List UInt8} {s : Int} (hr : Rd B w (.slice a n c) bs) (hB : B ≤ w.heap.size) (hx : bs.length ≤ 1000000) {w0 : World} {a2 : Option Addr} {n2 c2 : Nat} {tss : List (List UInt8)} (ht : RdRows w0 (.slice a2 n2 c2) tss) (hb0 : Below w0.heap.size w0 w) (hn2 : tss.length ≤ 100) :
    Calls Try.prog 12 #[.agg #[.slice a n c, .int .i64 s], .slice a2 n2 c2] w (AppEnd w bs s tss) := by
  obtain ⟨rfl, hnc, hcm⟩ := hr.len
  obtain ⟨rfl, hnc2, hcm2⟩ := ht.len
  have hlm : bs.length ≤ 9223372036854775807 := by unfold maxLen at hcm; omega
  have hb2 := box2 w 24 (.slice a bs.length c) (.int .i64 s) (.slice none 0 0) (.int .i64 0)
  go_enter Try.func12, Try.ntmps12
  go_wp2_with fail
  obtain ⟨pl, pr, q, hsz⟩ := hb2
  generalize (w.alloc (.cells #[.slice a bs.length c, .int .i64 s] 24)).alloc (.cells #[.slice none 0 0, .int .i64 0] 24) = W at *
  refine (refCopy_own W (hr.below (q.mono hB)) (Nat.le_trans hB q.size) hx).mono ?_
  rintro e w1 ⟨a1, k1, c1, rfl, hF⟩
  have hb1 := hF.1
  have hO1 := hF.2.to q.size
  replace pl := pl.below hb1 pl.lt
  replace pr := pr.below hb1 pr.lt
  replace q := q.trans (hb1.mono q.size)
  have hs1 := hb1.size
  clear hb1 hF
  obtain rfl := hO1.len
  go_upto_region 2 with (fail)
  have po := PairV.new w1 24 (.slice a1 bs.length c1) (.int .i64 s)
  replace pl := pl.alloc (.cells #[.slice a1 bs.length c1, .int .i64 s] 24)
  replace pr := pr.alloc (.cells #[.slice a1 bs.length c1, .int .i64 s] 24)
  replace q := q.alloc q.size (.cells #[.slice a1 bs.length c1, .int .i64 s] 24)
  replace hO1 := hO1.alloc (.cells #[.slice a1 bs.length c1, .int .i64 s] 24)
  have hs1' : w.heap.size + 2 ≤ w1.heap.size := by omega
  generalize w1.alloc (.cells #[.slice a1 bs.length c1, .int .i64 s] 24) = W1 at *
  have l0 := pl.cell0
  have l1 := pl.cell1
  go_wp2_with fail
  clear l0 l1
  refine (refCheck_any W1 (hr.below (q.mono hB))).mono ?_
  rintro e w2 ⟨rfl, hb2⟩
  replace pl := pl.below hb2 pl.lt
  replace pr := pr.below hb2 pr.lt
  replace po := po.below hb2 po.lt
  replace hO1 := hO1.below hb2
  replace q := q.trans (hb2.mono q.size)
  clear hb2
  by_cases hk : okL bs s
  · have hd : decide (okL bs s) = true := decide_eq_true hk
    rw [hd]
    clear hd
    have hbl : bs.length ≤ 20000 := hk.1
    have HK := Lib.hid hk
    clear hk
    go_wp2_with fail
    go_loopw [8] (fun i wr => ∃ (k : Nat) (a3 : Option Addr) (k3 c3 : Nat), i = .int .i64 k ∧ k ≤ tss.length ∧ (∀ r (hr : r < tss.length), r < k → tss[r].length ≤ 2000) ∧ PairV wr w1.heap.size 24 (.slice a3 k3 c3) (.int .i64 s) ∧
        Own 5 w.heap.size wr (.slice a3 k3 c3) (bs ++ framesB (tss.take k)) ∧ (framesB (tss.take k)).length ≤ 2006 * k ∧ PairV wr w.heap.size 24 (.slice a bs.length c) (.int .i64 s) ∧ PairV wr (w.heap.size + 1) 24 (.slice none 0 0) (.int .i64 0) ∧ Below w.heap.size w wr)
      (fun i _ => tss.length - (intOf i).toNat)
    case atStart => exact ⟨0, a1, _, c1, rfl, Nat.zero_le _, fun r _ h => by omega, po, by simpa [framesB] using hO1, by simp [framesB], pl, pr, q⟩
    case round =>
      clear pl pr po hO1 q
      obtain ⟨k, a3, k3, c3, rfl, hkl, hle, po, hO, hlen, pl, pr, q⟩ := hrel
      rcases Nat.lt_or_ge k tss.length with hlt | hge
      · obtain ⟨b, off, A, L, C, rfl, hbl', hcell, hrd⟩ := ht.at (hb0.trans (q.mono hb0.size)) k hlt
        obtain rfl : L = tss[k].length := hrd.len.1
        have hLm : tss[k].length ≤ 9223372036854775807 := by have := hrd.len.2; unfold maxLen at this; omega
        by_cases hbig : 2000 < tss[k].length
        · have HA := Lib.hid (appS_long (bs := bs) (s := s) HK.out ⟨_, List.getElem_mem hlt, hbig⟩)
          have l0 := pl.cell0
          have l1 := pl.cell1
          go_wp2_with fail
          refine (refWrite_no _ hbig hLm).mono ?_
          rintro e w4 ⟨rfl, rfl⟩
          go_wp2_with fail
          refine (refCopy_any _ (hr.below (q.mono hB)) (Nat.le_trans hB q.size) hx).mono ?_
          rintro e w5 ⟨a5, k5, c5, rfl, r5, hb5⟩
          replace pr := pr.below hb5 pr.lt
          replace q := q.trans (hb5.mono q.size)
          have fr0 := pr.frozen0
          have fr1 := pr.frozen1
          have rc0 := pr.cell0
          have rc1 := pr.cell1
          clear hb5
          go_wp2_with fail
          exact app_ret pr (notU8_slice _ _ _) (notU8_int _) r5 q (by omega) HA.out rfl (fun hp => by simp [results, Try.results12, go_sem, hp.cell0, hp.cell1])
        · have h2000 : tss[k].length ≤ 2000 := by omega
          have hfk := frameB_le h2000
          have hsn := Lib.hid (show bs ++ framesB (tss.take (k + 1)) = (bs ++ framesB (tss.take k)) ++ frameB tss[k] by
            rw [List.take_succ_eq_append_getElem hlt, framesB_append, List.append_assoc]; simp [framesB])
          have hle' : ∀ r (hr : r < tss.length), r < k + 1 → tss[r].length ≤ 2000 := fun r hr h => by
            rcases Nat.lt_or_ge r k with h4 | h4
            · exact hle r hr h4
            · obtain rfl : r = k := by omega
              exact h2000
          have HL := Lib.hid hle'
          clear hle hle' hbig
          go_wp2_with fail
          refine (refWrite_yes _ hrd (Nat.le_trans hb0.size q.size) h2000).mono ?_
          rintro e w4 ⟨ax, kx, cx, rfl, hF⟩
          replace po := po.below hF.1 po.lt
          replace pl := pl.below hF.1 pl.lt
          replace pr := pr.below hF.1 pr.lt
          replace hO := hO.below hF.1
          replace q := q.trans (hF.1.mono q.size)
          have o0 := po.cell0
          go_wp2_with (at_builtin; refine wpList_append byP rfl rfl rfl hO rfl hF.rd q.size ?_ ?hlen2; intro a6 k6 c6 w6 hO6 hg6 hb6; have po6 := pair_apart ub_ne po hO hg6; have pl6 := pair_apart ub_ne pl hO hg6; have pr6 := pair_apart ub_ne pr hO hg6; have q6 := q.trans hb6; rw [← hsn.out] at hO6; have oc6 := po6.cell0; have of6 := po6.frozen0)
          case hlen2 => rw [List.length_append]; omega
          have gs := grown_set w6 w1.heap.size 0 (.slice a6 k6 c6)
          exact ⟨⟨k + 1, a6, k6, c6, by go_num, by omega, HL.out, po6.put0 _, own_core ub_ne hO6 gs po6, by rw [List.take_succ_eq_append_getElem hlt, framesB_append, List.length_append, show framesB [tss[k]] = frameB tss[k] by simp [framesB]]; omega, pl6.keep (by omega) 0 _, pr6.keep (by omega) 0 _, q6.setCell (p := ⟨w1.heap.size, 0, none⟩) (show w.heap.size ≤ w1.heap.size by omega) _⟩, by simp [intOf]; omega⟩
      · obtain rfl : k = tss.length := by omega
        rw [List.take_length] at hO hlen
        have hk3 := hO.len
        rw [List.length_append] at hk3
        have hnl : ¬ longT tss := fun ⟨t, ht1, ht2⟩ => by
          obtain ⟨r, hr1, rfl⟩ := List.mem_iff_getElem.1 ht1
          have := hle r hr1 hr1
          omega
        have o0 := po.cell0
        have o1 := po.cell1
        by_cases hfull : 20000 < (bs ++ framesB tss).length
        · have HA := Lib.hid (appS_full HK.out hnl hfull)
          have d5 : decide ((20000 : Int) < (k3 : Int)) = true := by rw [List.length_append] at hfull; rw [decide_eq_true_iff]; omega
          have l0 := pl.cell0
          have l1 := pl.cell1
          clear hle hnl hfull hk3
          go_wp2_with fail
          refine (refCopy_any _ (hr.below (q.mono hB)) (Nat.le_trans hB q.size) hx).mono ?_
          rintro e w5 ⟨a5, k5, c5, rfl, r5, hb5⟩
          replace pr := pr.below hb5 pr.lt
          replace q := q.trans (hb5.mono q.size)
          have fr0 := pr.frozen0
          have fr1 := pr.frozen1
          have rc0 := pr.cell0
          have rc1 := pr.cell1
          clear hb5
          go_wp2_with fail
          exact app_ret pr (notU8_slice _ _ _) (notU8_int _) r5 q (by omega) HA.out rfl (fun hp => by simp [results, Try.results12, go_sem, hp.cell0, hp.cell1])
        · have HA := Lib.hid (appS_ok HK.out hnl hfull)
          have d5 : decide ((20000 : Int) < (k3 : Int)) = false := by rw [List.length_append] at hfull; rw [decide_eq_false_iff_not]; omega
          have fr0 := pr.frozen0
          have fr1 := pr.frozen1
          have rc0 := pr.cell0
          have rc1 := pr.cell1
          clear hle hnl hfull hk3
          go_wp2_with fail
          exact app_ret pr (notU8_slice _ _ _) (notU8_int _) hO.rd q (by omega) HA.out rfl (fun hp => by simp [results, Try.results12, go_sem, hp.cell0, hp.cell1])
  · have hd : decide (okL bs s) = false := decide_eq_false hk
    have HA := Lib.hid (appS_arg (ts := tss) hk)
    rw [hd]
    have l0 := pl.cell0
    have l1 := pl.cell1
    have o0 := po.cell0
    have o1 := po.cell1
    have fo0 := po.frozen0
    have fo1 := po.frozen1
    have fr0 := pr.frozen0
    have fr1 := pr.frozen1
    have rc0 := pr.cell0
    have rc1 := pr.cell1
    clear hk hd
    go_wp2_with fail
    exact app_ret pr (notU8_slice _ _ _) (notU8_int _) hO1.rd q (by omega) HA.out rfl (fun hp => by simp [results, Try.results12, go_sem, hp.cell0, hp.cell1])
end Go.Proofs.Ytebilecgmblmfaa
