/-
  TEXTS OF ONE PROOF, merged: RpI, RpJ, RpL, ReadsTellW, ReadsHoldW, ReadsKeepW, Apr.
-/
import Derived.Deep.CutRange
import Derived.LoopIn
import Derived.LoopNIn
import Derived.RangeFuncKeeps
import Derived.ScopeJumps
import Derived.TacticsInMore
import Derived.Test.YtmcleffpjfeegaaRk8
namespace Go.Proofs.Ytmcleffpjfeegaa
open Go.RowKit Go.Shelf
attribute [local go_sem] Oper.semAt_some
structure PEl where
  ad : Option Addr
  c : Nat
  ad2 : Option Addr
  c2 : Nat
  p : Ps
def PEl.enc (x : PEl) : Array Value := #[.agg #[.int .i64 x.p.snap, .int .i64 x.p.stamp, .bool x.p.held, .slice x.ad x.p.reads.length x.c, .slice x.ad2 x.p.writes.length x.c2, .bool x.p.out]]
def GdP (n0 : Nat) (x : PEl) (W : World) : Prop := RdPs (· < n0) W (.agg #[.int .i64 x.p.snap, .int .i64 x.p.stamp, .bool x.p.held, .slice x.ad x.p.reads.length x.c, .slice x.ad2 x.p.writes.length x.c2, .bool x.p.out]) x.p ∧ n0 ≤ W.heap.size ∧ smP x.p
def PreK (l : List Ps) (ys : List PEl) : Prop := ∃ r, l = ys.map (·.p) ++ r
theorem keepP_pre (l : List Ps) (lv : List Lv) (i : Nat) : ∃ r, keepP l lv = keepP (l.take i) lv ++ r := ⟨keepP (l.drop i) lv, by unfold keepP; rw [← List.filter_append, List.take_append_drop]⟩
theorem run_fieldLv (w : World) (s : Int) (a : Option Addr) (n c : Nat) : (Instr.field 46 (.agg #[.int .i64 s, .slice a n c]) 0).run Try.prog w = .ok (.int .i64 s) w := by kernel_rfl
attribute [local go_sem] run_fieldLv
theorem rdL_to {α : Type} {E : Elt α} {w0 W : World} {v : Value} {xs : List α} (h : RdL E (· < w0.heap.size) w0 v xs) (hb : Below w0.heap.size w0 W) : RdL E (· < w0.heap.size) W v xs := h.keep fun k hk => hb.block k hk
set_option maxRecDepth 100000 in
theorem behind_any (w : World) (a b : Option Addr) (n c m d : Nat) :
    Calls Try.prog 27 #[.slice a n c, .slice b m d] w fun e w' => e = .returned (.func (.func 51) #[] #[.pointer (some ⟨w.heap.size + 1, 0, none⟩), .pointer (some ⟨w.heap.size, 0, none⟩)]) ∧
      w' = (w.alloc (.cells #[.slice a n c] 27)).alloc (.cells #[.slice b m d] 28) := by
  go_enter Try.func27, Try.ntmps27
  go_wp2
  go_ret
  exact ⟨rfl, rfl⟩
set_option maxRecDepth 100000 in
set_option maxHeartbeats 8000000 in
theorem behind1_in (l : Nat) {w0 : World} {J Jx : Unit → List PEl → World → Prop} {L : List Ps} {lv : List Lv} {N B lb pb : Nat} {a1 a2 : Option Addr} {d1 d2 : Nat} (hL : RdL Elt.ps (· < w0.heap.size) w0 (.slice a1 L.length d1) L) (hV : RdL Elt.lv (· < w0.heap.size) w0 (.slice a2 lv.length d2) lv) (hsm : ∀ p ∈ L, smP p)
    (hAb : ∀ i, AbidesFrom B (J i))
    (hY : ∀ i pre y W, J i pre W → GdP w0.heap.size y W → pre.length < N → YieldAt Fence.wide 1 Try.prog l y.enc W fun e W' => (e = .returned (.bool true) ∧ J i (pre ++ [y]) W' ∧ Below w0.heap.size W W') ∨ (e = .returned (.bool false) ∧ Jx i (pre ++ [y]) W'))
    (W : World) (hW : Below w0.heap.size w0 W) (hlb : Boxed W lb 28 (.slice a2 lv.length d2)) (hpb : Boxed W pb 27 (.slice a1 L.length d1)) (h0 : ∀ i, J i [] W) (hN : (keepP L lv).length ≤ N) :
    CallsIn Fence.wide 2 Try.prog 51 #[.func (.yield l) #[] #[], .pointer (some ⟨lb, 0, none⟩), .pointer (some ⟨pb, 0, none⟩)] W fun e W' => (∃ v, e = .returned v) ∧ ∃ i, ((∃ ys : List PEl, ys.map (·.p) = keepP L lv ∧ J i ys W') ∨ (∃ pre, PreK (keepP L lv) pre ∧ Jx i pre W')) := by
  obtain ⟨_, _, hcm⟩ := hL.len
  have hLm : L.length ≤ 9223372036854775807 := by unfold maxLen at hcm; omega
  obtain ⟨_, _, hcm2⟩ := hV.len
  have hVm : lv.length ≤ 9223372036854775807 := by unfold maxLen at hcm2; omega
  clear hcm hcm2
  have lc := hlb.cell
  have pc := hpb.cell
  refine callsIn_of_wp Try.func51 rfl trivial ?_ rfl
  simp only [Try.ntmps51, List.size_toArray, List.length_cons, List.length_nil, Nat.reduceAdd, Nat.reduceSub, Array.replicate_succ, Array.replicate_zero, List.push_toArray, List.append_toArray, List.nil_append, List.cons_append]
  refine wpIn_wide.2 ?_
  cases lv with
  | nil =>
    have e0 : ((([] : List Lv).length : Int) == 0) = true := rfl
    have e1 : decide ((([] : List Lv).length : Int) = 0) = true := rfl
    go_wp2_with fail
    (try simp only [Exit.inBlock, Exit.then])
    refine bodyPost_ret (results_none rfl _ _ _) rfl ?_
    exact ⟨⟨_, rfl⟩, (), .inl ⟨[], by rw [keepP_nil]; rfl, h0 ()⟩⟩
  | cons x lv =>
  have e0 : (((x :: lv).length : Int) == 0) = false := beq_eq_false_iff_ne.2 (by rw [List.length_cons]; omega)
  have e1 : decide (((x :: lv).length : Int) = 0) = false := decide_eq_false (by rw [List.length_cons]; omega)
  have hmin := minLv_any W (hV.keep fun k hk => hW.block k hk)
  have hmt := Lib.hid (fun p => metP_least x lv p)
  obtain ⟨nlv, enlv⟩ : ∃ nlv, nlv = (x :: lv).length := ⟨_, rfl⟩
  rw [← enlv] at e0 e1 hVm lc hmin
  clear enlv
  go_wp2_with fail
  refine hmin.mono ?_
  rintro e W1 ⟨b1, b2, rfl, h64, hb1⟩
  replace pc := (hb1.cell (p := ⟨_, _, none⟩) (cell_lt pc)).trans pc
  have hW1 := hW.trans (hb1.mono hW.size)
  have hJ1 := hAb _ _ _ _ none (h0 ()) (grown_below' hb1 none) (by simp)
  obtain ⟨lst, elst⟩ : ∃ lst, lst = leastL x lv := ⟨_, rfl⟩
  rw [← elst] at hmt h64
  rw [← elst]
  obtain ⟨lvs, elvs⟩ : ∃ lvs, lvs = x :: lv := ⟨_, rfl⟩
  rw [← elvs] at hmt hN
  replace elvs := Lib.hid elvs
  clear lc e0 e1 hmin hb1 elst hV hlb hpb
  go_wp2_with fail
  refine (wpIn_wide (n := 2)).1 ?_
  gi_loopw [15] (fun v wr => ∃ (i : Nat) (ys : List PEl), v = .int .i64 (i : Int) ∧ i ≤ L.length ∧ ys.map (·.p) = keepP (L.take i) lvs ∧ J () ys wr ∧ Below w0.heap.size w0 wr) (fun v _ => L.length - (intOf v).toNat)
  case atStart => exact ⟨0, [], rfl, by omega, rfl, hJ1, hW1⟩
  case round =>
    clear hJ1 hW1 pc
    obtain ⟨i, ys, rfl, hil, hys, hJ, hq⟩ := hrel
    refine wpIn_wide.2 ?_
    rcases Nat.lt_or_ge i L.length with hl | hl
    · have d1 : decide ((i : Int) < (L.length : Int)) = true := by simp; omega
      obtain ⟨g1, o1, A1, A2, A3, A4, rfl, _, ⟨c0, c1, c2, c3, c4, c5⟩, hk1, hk2, hw64⟩ := (rdL_to hL hq).ps i hl
      have hsn := Lib.hid (keepP_snoc (lv := lvs) hl)
      have hmp := Lib.hid (hmt.out L[i])
      have hsp := Lib.hid (hsm _ (List.getElem_mem hl))
      have hpre := Lib.hid (keepP_pre L lvs (i + 1))
      obtain ⟨p, ep⟩ : ∃ p, p = L[i] := ⟨_, rfl⟩
      rw [← ep] at c0 c1 c2 c3 c4 c5 hk1 hk2 hw64 hsn hmp hsp
      clear ep
      go_upto_region 5 with (first | (refine wpList_boxNew (vs := [.int .i64 0, .int .i64 0, .bool false, .slice none 0 0, .slice none 0 0, .bool false]) (by kernel_rfl) rfl rfl ?_; intro wa hba hBa) | (refine wpList_boxStore (us := [.int .i64 p.snap, .int .i64 p.stamp, .bool p.held, .slice A1 p.reads.length A2, .slice A3 p.writes.length A4, .bool p.out]) (by kernel_rfl) rfl rfl rfl rfl rfl rfl hBa rfl ?_; intro W2 hgw Bx) | fail)
      (try go_simp)
      have hbw := hba.grown hgw hba.size fun k hk => by injection hk with hk; omega
      clear c0 c1 c2 c3 c4 c5 hba hBa hgw
      have hJ2 := hAb _ _ _ _ none hJ (grown_below' hbw none) (by simp)
      have hq2 := hq.trans (hbw.mono hq.size)
      replace hk1 := hk1.below hbw
      replace hk2 := hk2.below hbw
      have x0 := Bx.cell (i := 0) rfl
      have x1 := Bx.cell (i := 1) rfl
      have x2 := Bx.cell (i := 2) rfl
      have x3 := Bx.cell (i := 3) rfl
      have x4 := Bx.cell (i := 4) rfl
      have x5 := Bx.cell (i := 5) rfl
      clear hJ hq hbw Bx
      by_cases hm : lst.snap < p.stamp
      · have dm : decide (lst.snap < p.stamp) = true := decide_eq_true hm
        have hsn2 := Lib.hid (show keepP (L.take (i + 1)) lvs = keepP (L.take i) lvs ++ [p] by rw [hsn.out, hmp.out, dm]; rfl)
        obtain ⟨y, hy⟩ : ∃ y : PEl, y = ⟨A1, A2, A3, A4, p⟩ := ⟨_, rfl⟩
        have hyp : y.p = p := by rw [hy]
        have hgd : GdP w0.heap.size y W2 := by
          rw [hy]
          exact ⟨⟨A1, A2, A3, A4, rfl, hk1, hk2, hw64⟩, hq2.size, hsp.out⟩
        have hyl := hY () ys y W2 hJ2 hgd (by
          have h1 := congrArg List.length hys
          obtain ⟨r, h2⟩ := hpre.out
          rw [hsn2.out] at h2
          rw [h2] at hN
          simp only [List.length_append, List.length_map, List.length_cons, List.length_nil] at h1 hN
          omega)
        replace hys := Lib.hid hys
        have hyn := Lib.hid (show (ys ++ [y]).map (·.p) = keepP (L.take (i + 1)) lvs by rw [hsn2.out, List.map_append, hys.out, List.map_cons, List.map_nil, hyp])
        obtain ⟨fn, tmps, assign, body, hyr, hR⟩ := hyl
        rw [hy] at hyr
        replace hyr : (Instr.yield l #[.agg #[.int .i64 p.snap, .int .i64 p.stamp, .bool p.held, .slice A1 p.reads.length A2, .slice A3 p.writes.length A4, .bool p.out]]).run Try.prog W2 = _ := hyr
        replace hyp := Lib.hid hyp
        replace hgd := Lib.hid hgd
        clear hy hm hk1 hk2 hsn hmp hsn2
        refine (wpIn_wide (n := 2)).1 ?_
        gi_wp2
        refine hR.mono ?_
        clear hR
        rintro e W5 (⟨rfl, hJ5, hK5⟩ | ⟨rfl, hx5⟩)
        · gi_wp2
          go_wp2_with fail
          go_roundw
          case rel => exact ⟨i + 1, ys ++ [y], by go_num, by omega, hyn.out, hJ5, hq2.trans hK5⟩
          case measure => simp [intOf]; omega
        · gi_wp2
          go_wp2_with fail
          (try simp only [Exit.inBlock, Exit.then])
          refine bodyPost_ret (results_none rfl _ _ _) rfl ?_
          obtain ⟨r, h2⟩ := hpre.out
          exact ⟨⟨_, rfl⟩, (), .inr ⟨ys ++ [y], ⟨r, by rw [← elvs.out, h2, hyn.out]⟩, hx5⟩⟩
      · have dm : decide (lst.snap < p.stamp) = false := decide_eq_false hm
        have hsn2 := Lib.hid (show keepP (L.take (i + 1)) lvs = keepP (L.take i) lvs by rw [hsn.out, hmp.out, dm]; simp)
        clear hm hk1 hk2 hsn hmp hpre
        go_wp2_with fail
        go_roundw
        case rel => exact ⟨i + 1, ys, by go_num, by omega, by rw [hsn2.out]; exact hys, hJ2, hq2⟩
        case measure => simp [intOf]; omega
    · obtain rfl : i = L.length := by omega
      have d1 : decide ((L.length : Int) < (L.length : Int)) = false := by simp
      rw [List.take_length] at hys
      replace hys := Lib.hid hys
      go_wp2_with fail
      go_end0
      exact ⟨⟨_, rfl⟩, (), .inl ⟨ys, by rw [← elvs.out]; exact hys.out, hJ⟩⟩
theorem behind_stops {w0 w : World} {L : List Ps} {lv : List Lv} {N lb pb : Nat} {a1 a2 : Option Addr} {d1 d2 : Nat} (hL : RdL Elt.ps (· < w0.heap.size) w0 (.slice a1 L.length d1) L) (hV : RdL Elt.lv (· < w0.heap.size) w0 (.slice a2 lv.length d2) lv) (hsm : ∀ p ∈ L, smP p) (hw : Below w0.heap.size w0 w)
    (hlb : Boxed w lb 28 (.slice a2 lv.length d2)) (hpb : Boxed w pb 27 (.slice a1 L.length d1)) (hN : (keepP L lv).length ≤ N) :
    SeqStopsG Try.prog 51 #[.pointer (some ⟨lb, 0, none⟩), .pointer (some ⟨pb, 0, none⟩)] PEl.enc (fun (_ : Unit) => Below w0.heap.size) (fun (_ : Unit) => GdP w0.heap.size) (fun ys => ys.map (·.p) = keepP L lv) (PreK (keepP L lv)) N w := fun l _ _ W hW hAb _ hY h0 =>
  behind1_in l hL hV hsm hAb hY W (hw.trans (hW.mono hw.size)) ((hW.block _ hlb.lt).trans hlb) ((hW.block _ hpb.lt).trans hpb) h0 hN
end Go.Proofs.Ytmcleffpjfeegaa
namespace Go.Proofs.Ytmcleffpjfeegaa
open Go.RowKit Go.Shelf
attribute [local go_sem] Oper.semAt_some
theorem rdL_cellsP {α : Type} {E : Elt α} (hE : OnlyP E) {S : Nat → Prop} {w : World} {v : Value} {xs : List α} (h : RdL E S w v xs) : RdL E (fun k => S k ∧ cellsAtP w k) w v xs := by
  obtain ⟨a, cap, h1, h2, h3, h4⟩ := h
  by_cases h0 : xs = []
  · exact ⟨a, cap, h1, h2, h3, .inl h0⟩
  obtain ⟨b, off, e, hb, hr⟩ := h4.resolve_left h0
  have hpos : 0 < xs.length := List.length_pos_iff.2 h0
  have hcl : cellsAtP w b := by
    obtain ⟨vs, hR, hc⟩ := hr 0 hpos
    have hl := E.len hR
    have hp := E.pos
    exact cells_of_cell (hc 0 vs[0] (List.getElem?_eq_getElem (by omega)))
  refine ⟨a, cap, h1, h2, h3, .inr ⟨b, off, e, ⟨hb, hcl⟩, fun r h => ?_⟩⟩
  obtain ⟨vs, hR, hc⟩ := hr r h
  exact ⟨vs, hE _ _ _ _ hR, hc⟩
theorem sp_only : OnlyP Elt.sp := fun _ _ _ _ h => by
  obtain ⟨k, v, e, h1, h2, h3⟩ := h
  exact ⟨k, v, e, rdS_cellsP h1, rdS_cellsP h2, h3⟩
theorem wr_only : OnlyP Elt.wr := fun _ _ _ _ h => by
  obtain ⟨k, v, e, h1, h2, h3⟩ := h
  exact ⟨k, v, e, rdS_cellsP h1, rdS_cellsP h2, h3⟩
theorem ps_only : OnlyP Elt.ps := fun _ _ _ _ h => by
  obtain ⟨k, v, e, h1, h2, h3⟩ := h
  exact ⟨k, v, e, rdL_cellsP sp_only h1, rdL_cellsP wr_only h2, h3⟩
theorem rdL_ownP {α : Type} {E : Elt α} (hE : OnlyP E) {S : Nat → Prop} {v : Value} {xs : List α} {X Y : World} {row : Option Nat} (h : RdL E S X v xs) (hg : X.grownBy Y row) (hr : ∀ r, row = some r → ∃ o : Obj, X.heap[r]? = some o ∧ o.isCells = false) : RdL E S Y v xs :=
  ((rdL_cellsP hE h).keep fun k hk => by
    obtain ⟨o, ho, hc⟩ := hk.2
    exact grownBy_keeps_cells hg hr ho hc).weak fun _ hk => hk.1
theorem GdP.own {n₀ : Nat} {y : PEl} {X Y : World} {row : Option Nat} (h : GdP n₀ y X) (hg : X.grownBy Y row) (hr : ∀ r, row = some r → ∃ o : Obj, X.heap[r]? = some o ∧ o.isCells = false) : GdP n₀ y Y := by
  obtain ⟨⟨a, c, a2, c2, e, h1, h2, h3⟩, h4, h5⟩ := h
  exact ⟨⟨a, c, a2, c2, e, rdL_ownP sp_only h1 hg hr, rdL_ownP wr_only h2 hg hr, h3⟩, Nat.le_trans h4 hg.size, h5⟩
theorem keepsFromP_below {B : Nat} {w w' : World} (h : Below w.heap.size w w') : KeepsFrom B w w' := KeepsFrom.of_grownBy (grown_below' h none) (fun j e => by cases e)
theorem keepsFromP_box {B b : Nat} {w w' : World} {t : TypeId} {vs : List Value} (hb : BoxN w b t vs) (hg : w.grownBy w' (some b)) : KeepsFrom B w w' :=
  ⟨hg.size, fun k o _ hk hc => (hg.block k (Array.getElem?_eq_some_iff.1 hk).1 fun e => by
    injection e with e
    subst e
    rw [show w.heap[k]? = _ from hb] at hk
    cases hk
    cases hc).trans hk⟩
def NewP (W : World) (p : Ps) (w : World) (u : Value) : Prop := ∃ us : List Value, u = .agg us.toArray ∧ us.length = 6 ∧ Elt.ps.R (fun g => W.heap.size ≤ g ∧ g < w.heap.size) w p us
theorem NewP.below {W : World} {p : Ps} (w : World) (u : Value) (w' : World) (h : NewP W p w u) (hb : Below w.heap.size w w') : NewP W p w' u := by
  obtain ⟨us, e, hl, h⟩ := h
  exact ⟨us, e, hl, Elt.weak Elt.ps (Elt.below h hb) fun g hg => ⟨hg.1, Nat.lt_of_lt_of_le hg.2 hb.size⟩⟩
theorem NewP.grown {W : World} {p : Ps} {r : Option Nat} (hr : ∀ k, r = some k → k < W.heap.size) (w : World) (u : Value) (w' : World) (h : NewP W p w u) (hg : w.grownBy w' r) : NewP W p w' u := by
  obtain ⟨us, e, hl, h⟩ := h
  exact ⟨us, e, hl, Elt.weak Elt.ps (Elt.keep Elt.ps h fun g hg2 => hg.block g hg2.2 fun e => by have := hr g e.symm; omega) fun g hg2 => ⟨hg2.1, Nat.lt_of_lt_of_le hg2.2 hg.size⟩⟩
set_option maxRecDepth 100000 in
set_option maxHeartbeats 8000000 in
theorem sKeep_any (w : World) {S S2 : Nat → Prop} {a a2 : Option Addr} {n cx n2 cy : Nat} {l : List Ps} {lv : List Lv} (hl : RdL Elt.ps S w (.slice a n cx) l) (hm : RdL Elt.lv S2 w (.slice a2 n2 cy) lv) (hsm : smPs l) :
    Calls Try.prog 14 #[.slice a n cx, .slice a2 n2 cy] w (PsEnd w (keepP l lv)) := by
  replace hl : RdL Elt.ps (· < w.heap.size) w (.slice a n cx) l := hl.fit.weak fun _ h => h.2
  replace hm : RdL Elt.lv (· < w.heap.size) w (.slice a2 n2 cy) lv := hm.fit.weak fun _ h => h.2
  obtain ⟨rfl, _, _⟩ := hl.len
  obtain ⟨rfl, _, _⟩ := hm.len
  have hkl := keepP_len l lv
  have hl1 := hsm.1
  obtain ⟨W0, hW0⟩ : ∃ W, W = w.alloc (.cells #[.slice none 0 0] 27) := ⟨_, rfl⟩
  have hs0 : W0.heap.size = w.heap.size + 1 := by rw [hW0]; simp
  have b0 : Boxed W0 w.heap.size 27 (.slice none 0 0) := by rw [hW0]; exact Boxed.new _ _ _
  have q0 : Below w.heap.size w W0 := by rw [hW0]; exact (Below.refl _ _).alloc (Nat.le_refl _) _
  refine calls_of_wp_marks Try.func14 rfl ?_
  simp only [Try.ntmps14, List.size_toArray, List.length_cons, List.length_nil, Nat.reduceAdd, Nat.reduceSub, Array.replicate_succ, Array.replicate_zero, List.push_toArray, List.append_toArray, List.nil_append, List.cons_append]
  go_upto_region 2 with (fail)
  rw [← hW0]
  clear hW0
  go_wp2_with fail
  refine (behind_any W0 _ _ _ _ _ _).mono ?_
  rintro e wS ⟨rfl, hw'⟩
  have bP : Boxed wS (w.heap.size + 1) 27 (.slice a l.length cx) := by
    rw [hw']
    have := Boxed.new W0 27 (.slice a l.length cx)
    rw [hs0] at this
    exact this.alloc _
  have bL : Boxed wS (w.heap.size + 2) 28 (.slice a2 lv.length cy) := by
    rw [hw']
    have := Boxed.new (W0.alloc (.cells #[.slice a l.length cx] 27)) 28 (.slice a2 lv.length cy)
    rw [World.size_alloc, hs0] at this
    exact this
  have bO : Boxed wS w.heap.size 27 (.slice none 0 0) := by
    rw [hw']
    exact (b0.alloc _).alloc _
  have hbS : Below W0.heap.size W0 wS := by rw [hw']; exact ((Below.refl _ _).alloc (Nat.le_refl _) _).alloc (by simp) _
  have hsS : wS.heap.size = w.heap.size + 3 := by rw [hw']; simp [hs0]
  have qS := q0.trans (hbS.mono q0.size)
  rw [hs0]
  clear hw' b0 hbS q0 hs0
  have hst := behind_stops (w0 := w) (w := wS) (N := 1000000) (lb := w.heap.size + 2) (pb := w.heap.size + 1) hl hm hsm.2 qS bL bP (by omega)
  clear bP bL
  go_wp2_with fail
  refine wp_rangeFuncG (gf := 51) (lb := #[.pointer (some ⟨w.heap.size + 2, 0, none⟩), .pointer (some ⟨w.heap.size + 1, 0, none⟩)]) rfl (enters_of Try.func51 (by kernel_rfl) rfl)
    hst (fun h k => h.trans k) (fun _ => belowK_b (by omega)) (Below.refl _ _) (fun _ => rfl)
    (fun _ (pre : List PEl) W => Below w.heap.size w W ∧ BoxLP Elt.ps 27 49 w.heap.size (w.heap.size + 3) (w.heap.size + 3) W (pre.map (·.p)) ∧ w.heap.size + 3 ≤ W.heap.size)
    (fun _ c pre W => False)
    (fun _ => OwnFrom.and (below_ownN (Nat.le_refl _) (by omega)) (OwnFrom.and (BoxLP.own ps_only _) (fun _ _ _ _ hs hg _ => Nat.le_trans hs hg.size)))
    (fun i c _ _ _ _ hs _ _ => hs)
    (fun _ => ⟨qS, ⟨none, 0, 0, bO, OwnL.nil _ _ _ _ _⟩, by omega⟩)
    (fun _ y a' W => ∃ Bx, w.heap.size + 3 ≤ Bx ∧ BoxN W Bx 49 [.int .i64 y.p.snap, .int .i64 y.p.stamp, .bool y.p.held, .slice y.ad y.p.reads.length y.c, .slice y.ad2 y.p.writes.length y.c2, .bool y.p.out] ∧ GdP w.heap.size y W ∧ (∃ ad k c, Boxed W w.heap.size 27 (.slice ad k c) ∧ Value.ownBlock (.slice ad k c) ≠ some Bx) ∧ a' = { tmps := #[.slice a l.length cx, .slice a2 lv.length cy, undef, undef, .slice none 0 0, .pointer (some ⟨w.heap.size, 0, none⟩), .pointer (some ⟨Bx, 0, none⟩), .slice a l.length cx, .slice a2 lv.length cy, .func (.func 51) #[] #[.pointer (some ⟨w.heap.size + 2, 0, none⟩), .pointer (some ⟨w.heap.size + 1, 0, none⟩)], .agg #[.int .i64 y.p.snap, .int .i64 y.p.stamp, .bool y.p.held, .slice y.ad y.p.reads.length y.c, .slice y.ad2 y.p.writes.length y.c2, .bool y.p.out], undef, undef, undef, undef, undef, undef], defers := [] })
    (fun _ y a' _ X Y row hs hg hr => by
      obtain ⟨Bx, h1, h2, h3, ⟨ad, k, c, h4, h5⟩, e⟩ := hs
      exact ⟨Bx, h1, boxN_own () X Y row h2 hg hr, h3.own hg fun r e => (hr r e).2, ⟨ad, k, c, (grownBy_keeps_cells hg (fun r e => (hr r e).2) h4 rfl).trans h4, h5⟩, e⟩) ?assign ?body ?done ?stop
  case assign =>
    rintro i l0 pre y W K ⟨hb, hx, hs⟩ hgd hK
    have eZ : (#[10] : Array Tmp).zip y.enc = #[(10, .agg #[.int .i64 y.p.snap, .int .i64 y.p.stamp, .bool y.p.held, .slice y.ad y.p.reads.length y.c, .slice y.ad2 y.p.writes.length y.c2, .bool y.p.out])] := by kernel_rfl
    rw [eZ]
    simp only [List.foldl_toArray', List.foldl_cons, List.foldl_nil]
    go_simp
    gi_wp2_with (first | (refine inR_boxNew (vs := [.int .i64 0, .int .i64 0, .bool false, .slice none 0 0, .slice none 0 0, .bool false]) (by kernel_rfl) rfl rfl ?_; intro wa hba hBa) | (refine inR_boxStore (us := [.int .i64 y.p.snap, .int .i64 y.p.stamp, .bool y.p.held, .slice y.ad y.p.reads.length y.c, .slice y.ad2 y.p.writes.length y.c2, .bool y.p.out]) (by kernel_rfl) rfl rfl rfl rfl rfl rfl hBa rfl ?_; intro wb hgb hBb) | fail)
    have hbb := hba.grown hgb hba.size fun k e => by injection e with e; omega
    obtain ⟨ao, ko, co, hbx, hO⟩ := hx
    have hbx2 := (hbb.block _ hbx.lt).trans hbx
    exact hK _ _ ((keepsFromP_below hba).trans (keepsFromP_box hBa hgb)) (hbb.mono hb.size) ⟨hb.trans (hbb.mono hb.size), ⟨ao, ko, co, hbx2, hO.below hbb⟩, by have := hbb.size; omega⟩ ⟨W.heap.size, hs, hBb, hgd.own (grown_below' hbb none) (fun r e => by cases e), ⟨ao, ko, co, hbx2, fun e => by have := (hO.block_lt _ e).2; omega⟩, rfl⟩
  case stop =>
    rintro hi D c pre W4 hD _ h _
    exact h.elim
  case body =>
    rintro i l0 pre y a' W ⟨hb, ⟨ad, k, c, hbx, hO⟩, hs⟩ ⟨Bx, hBx, hbp, ⟨hxr, _, hsp⟩, ⟨ad', k', c', hbx', hne⟩, rfl⟩ hlt
    have hvv : Value.slice ad' k' c' = .slice ad k c := by
      have h1 := hbx'.symm.trans hbx
      simpa using h1
    rw [hvv] at hne
    clear hvv hbx'
    have hob : ∀ i, Value.ownBlock (.slice ad k c) = some i → w.heap.size + 3 ≤ i ∧ i < W.heap.size := hO.block_lt
    have hlen : (pre.map (·.p)).length + 1 ≤ 1073741824 := by rw [List.length_map]; omega
    have eC : ∀ args w, (callFunc 28 args).run Try.prog w = .ok (.enter 28 args) w := enters_of Try.func28 (by kernel_rfl) rfl
    refine wpIn_block ?_
    refine wpIn_region_setl (K := fun _ _ => True) (by kernel_rfl) (by kernel_rfl) (by kernel_rfl) [0, 2, 3, 4, 5] (by kernel_rfl) [lAny, lEq (.agg #[.int .i64 y.p.snap, .int .i64 y.p.stamp, .bool y.p.held, .slice y.ad y.p.reads.length y.c, .slice y.ad2 y.p.writes.length y.c2, .bool y.p.out]), lAny, lAny, lAny, lAny]
      (ColLP Elt.ps 27 49 w.heap.size (w.heap.size + 3) (w.heap.size + 3) W (.slice ad k c) (pre.map (·.p)) y.p (NewP W y.p)) (ColLP.more NewP.below) (ColP.start W)
      ⟨?o0, ?o1, ?o2, ?o3, ?o4, ?o5, trivial⟩ ?fin
    case o0 =>
      refine StOp.set rfl (by kernel_rfl) (fun A va D w' hF hT hN' hE hd hu hg => ?_)
      have e1 : A.eval (.tmp 5) = .pointer (some ⟨w.heap.size, 0, none⟩) := hF 5 rfl
      have hE2 := hE
      simp only [told, List.map_cons, List.map_nil, hN', Bool.false_eq_true, if_false] at hE2
      obtain ⟨h5, h6⟩ := ColP.load hE2 hbx
      refine wp_ld_slice (e := 49) rfl e1 (by kernel_rfl) h5.cell ⟨_, rfl, ?_, trivial⟩
      simpa [ColLP, told, don, upd] using h6
    case o1 =>
      refine StOp.free rfl (by kernel_rfl) (fun A va D w' hF hT hN' hE hd hu hg => ?_)
      have e1 : A.eval (.tmp 6) = .pointer (some ⟨Bx, 0, none⟩) := hF 6 rfl
      have hE2 := hE
      simp only [told, List.map_cons, List.map_nil] at hE2
      exact wp_loadN (us := [.int .i64 y.p.snap, .int .i64 y.p.stamp, .bool y.p.held, .slice y.ad y.p.reads.length y.c, .slice y.ad2 y.p.writes.length y.c2, .bool y.p.out]) psS rfl e1 (fun j u hj => by
        rw [Nat.zero_add]
        refine hE2.tr.cell (hbp.cell hj) ?_
        rintro (⟨_, e⟩ | ⟨_, e⟩)
        · exact hne e.symm
        · omega) ⟨_, rfl, rfl, Below.refl _ _⟩
    case o2 =>
      refine StOp.set rfl (by kernel_rfl) (fun A va D w' hF hT hN' hE hd hu hg => ?_)
      have e1 : A.eval (.tmp 12) = .agg #[.int .i64 y.p.snap, .int .i64 y.p.stamp, .bool y.p.held, .slice y.ad y.p.reads.length y.c, .slice y.ad2 y.p.writes.length y.c2, .bool y.p.out] := (hT 12 1 (by simp) rfl).trans (hg ⟨1, .data⟩ (by simp) rfl rfl)
      have hE2 := hE
      simp only [told, List.map_cons, List.map_nil, hN', Bool.false_eq_true, if_false] at hE2
      have hxw : RdPs (· < w.heap.size) w' (.agg #[.int .i64 y.p.snap, .int .i64 y.p.stamp, .bool y.p.held, .slice y.ad y.p.reads.length y.c, .slice y.ad2 y.p.writes.length y.c2, .bool y.p.out]) y.p := hxr.keep fun g hg => hE2.tr.block g (by omega) fun e => by
        rcases e with ⟨_, e⟩ | ⟨_, e⟩
        · have := hob g e.symm; omega
        · omega
      refine wp_callFn rfl eC (args := #[.agg #[.int .i64 y.p.snap, .int .i64 y.p.stamp, .bool y.p.held, .slice y.ad y.p.reads.length y.c, .slice y.ad2 y.p.writes.length y.c2, .bool y.p.out]]) (by simp only [List.map_toArray, List.map_cons, List.map_nil, e1]) ((pAlone_any w' hxw hsp).mono ?_)
      rintro e w2 ⟨v, rfl, hv, hb2⟩
      obtain ⟨us, rfl, hR, hus⟩ := hv.R
      have h5 := ColP.elem NewP.below hE2 hb2 (u := .agg us.toArray) ⟨us, rfl, hus, Elt.weak Elt.ps hR fun g hg => ⟨Nat.le_trans hE2.tr.size hg.1, hg.2⟩⟩
      exact ⟨_, rfl, _, rfl, by simpa [ColLP, told, don, upd] using h5, trivial⟩
    case o3 =>
      refine StOp.set rfl (by kernel_rfl) (fun A va D w' hF hT hN' hE hd hu hg => ?_)
      have x1 : A.eval (.tmp 13) = va 2 := hT 13 2 (by simp) rfl
      have d2 : D 2 = true := hd ⟨2, .data⟩ (by simp) rfl
      have hE2 := hE
      simp only [told, List.map_cons, List.map_nil, hN', d2, Bool.false_eq_true, if_false, if_true] at hE2
      have d4 : D 4 = false := by
        cases h : D 4 with
        | false => rfl
        | true => rw [h] at hE2; exact absurd rfl (ColP.dn hE2 (by simp)).2
      rw [d4] at hE2
      simp only [Bool.false_eq_true, if_false] at hE2
      have d5 : D 5 = false := by
        cases h : D 5 with
        | false => rfl
        | true => rw [h] at hE2; have := ColP.no hE2 rfl; simp at this
      rw [d5] at hE2
      simp only [Bool.false_eq_true, if_false] at hE2
      obtain ⟨us, ec, _, hR⟩ := hE2.el _ rfl
      refine ColP.build psP hE2 rfl (x1.trans ec) rfl (Elt.weak Elt.ps hR fun g hg => ⟨by omega, hg.2, fun e => by have := hob g e.symm; omega⟩) (by decide) NewP.below fun r w2 h6 => ⟨_, rfl, ?_, trivial⟩
      simpa [ColLP, told, don, upd, d2, d4, d5] using h6
    case o4 =>
      refine StOp.set rfl (by kernel_rfl) (fun A va D w' hF hT hN' hE hd hu hg => ?_)
      have x1 : A.eval (.tmp 11) = va 0 := hT 11 0 (by simp) rfl
      have x2 : A.eval (.tmp 14) = va 3 := hT 14 3 (by simp) rfl
      have d0 : D 0 = true := hd ⟨0, .data⟩ (by simp) rfl
      have d3 : D 3 = true := hd ⟨3, .data⟩ (by simp) rfl
      have hE2 := hE
      simp only [told, List.map_cons, List.map_nil, hN', d0, d3, Bool.false_eq_true, if_false, if_true] at hE2
      have d5 : D 5 = false := by
        cases h : D 5 with
        | false => rfl
        | true => rw [h] at hE2; have := ColP.no hE2 rfl; simp at this
      rw [d5] at hE2
      simp only [Bool.false_eq_true, if_false] at hE2
      refine ColP.app psP hE2 (by simp) rfl (x1.trans (hE2.ld _ rfl)) x2 hO (by omega) hlen (NewP.grown fun i hi => (hob i hi).2) fun r2 w2 h6 => ⟨_, rfl, ?_, trivial⟩
      simpa [ColLP, told, don, upd, d0, d3, d5] using h6
    case o5 =>
      refine StOp.set rfl (by kernel_rfl) (fun A va D w' hF hT hN' hE hd hu hg => ?_)
      have e1 : A.eval (.tmp 5) = .pointer (some ⟨w.heap.size, 0, none⟩) := hF 5 rfl
      have x2 : A.eval (.tmp 15) = va 4 := hT 15 4 (by simp) rfl
      have d4 : D 4 = true := hd ⟨4, .data⟩ (by simp) rfl
      have hE2 := hE
      simp only [told, List.map_cons, List.map_nil, hN', d4, Bool.false_eq_true, if_false, if_true] at hE2
      refine ColP.sto hE2 rfl (by kernel_rfl) e1 x2 hbx hO (by omega) (by omega) (NewP.grown fun i hi => by injection hi with hi; omega) fun w2 h6 => ⟨_, rfl, ?_, trivial⟩
      simpa [ColLP, told, don, upd, d4] using h6
    case fin =>
      intro vs1 W1 hE hG
      obtain ⟨h1, h2, h3⟩ := ColP.done (n₀ := w.heap.size) hE hbx hO (by omega) (by omega) wS.heap.size
      exact ⟨h1, h2, hb.trans h2, by rw [List.map_append]; exact h3, by have := h2.size; omega⟩
  case done =>
    rintro _ D ys W hD hys ⟨hb, ⟨ad, k, c, hbx, hO⟩, hs⟩ hK
    have hc := hbx.cell
    obtain rfl := hO.len
    rw [hys] at hO hc
    clear hbx
    replace hys := Lib.hid hys
    go_wp2_with fail
    refine ⟨by simp, .inl ⟨_, _, rfl, run_takeDeferred hK, ?_⟩⟩
    have hb5 := hb.trans (belowK_b (w := w) (Nat.le_refl _) W D _ (Obj.deferred none) (by omega) hK rfl rfl)
    have hO5 := OwnL.grownP ps_only hO (grownBy_putObj' W D (Obj.deferred none)) (fun r e => by injection e with e; subst e; exact ⟨_, hK, rfl⟩)
    exact ⟨_, by simp [results, Try.results14, go_sem], _, _, rfl, hO5.to (by omega) (by omega), hb5⟩
end Go.Proofs.Ytmcleffpjfeegaa
namespace Go.Proofs.Ytmcleffpjfeegaa
open Go.RowKit Go.Shelf
set_option maxRecDepth 100000 in
set_option maxHeartbeats 16000000 in
theorem sNote_any (w : World) {S S2 : Nat → Prop} {a : Option Addr} {n c : Nat} {l : List Sp} {v : Value} {x : Sp} (hl : RdL Elt.sp S w (.slice a n c) l) (hs : smL l) (hn : l.length ≤ 800000) (hx : RdSp S2 w v x) (hxs : smS x) :
    Calls Try.prog 10 #[.slice a n c, v] w (AdEnd w (addS l x 4)) := by
  have hx0 := hx
  obtain ⟨a1, a2, a3, a4, rfl, _, _, _⟩ := hx
  obtain ⟨W, hW, q, Bx, hsz⟩ := spBox w 25 [.int .i64 x.table, .slice a1 x.lo.length a2, .slice a3 x.hi.length a4, .bool x.isOpen]
  go_enter Try.func10, Try.ntmps10
  go_upto_region 1 with (fail)
  rw [show w.alloc (.cells #[.int .i64 x.table, .slice a1 x.lo.length a2, .slice a3 x.hi.length a4, .bool x.isOpen] 25) = W from hW.symm]
  clear hW
  have c0 := Bx.cell (i := 0) rfl
  have c1 := Bx.cell (i := 1) rfl
  have c2 := Bx.cell (i := 2) rfl
  have c3 := Bx.cell (i := 3) rfl
  go_wp2_with fail
  refine (sAdd_any W (m := 4) (hl.below q) hs hn (hx0.below q) hxs).mono ?_
  rintro e w1 ⟨ao, ko, co, rfl, hO, hb⟩
  clear c0 c1 c2 c3
  have hqs := q.size
  go_wp2_with fail
  go_ret2
  exact ⟨_, _, _, rfl, hO.to (by omega) (by omega), q.trans (hb.mono q.size)⟩
set_option maxRecDepth 100000 in
set_option maxHeartbeats 16000000 in
theorem rNote_any (w : World) {S S2 : Nat → Prop} {a : Option Addr} {n c : Nat} {l : List Sp} {v : Value} {x : Sp} (hl : RdL Elt.sp S w (.slice a n c) l) (hs : smL l) (hn : l.length ≤ 800000) (hx : RdSp S2 w v x) (hxs : smS x) :
    Calls Try.prog 11 #[.slice a n c, v] w (AdEnd w (addS l x 4)) := by
  have hx0 := hx
  obtain ⟨a1, a2, a3, a4, rfl, _, _, _⟩ := hx
  obtain ⟨W, hW, q, Bx, hsz⟩ := spBox w 25 [.int .i64 x.table, .slice a1 x.lo.length a2, .slice a3 x.hi.length a4, .bool x.isOpen]
  go_enter Try.func11, Try.ntmps11
  go_upto_region 1 with (fail)
  rw [show w.alloc (.cells #[.int .i64 x.table, .slice a1 x.lo.length a2, .slice a3 x.hi.length a4, .bool x.isOpen] 25) = W from hW.symm]
  clear hW
  have c0 := Bx.cell (i := 0) rfl
  have c1 := Bx.cell (i := 1) rfl
  have c2 := Bx.cell (i := 2) rfl
  have c3 := Bx.cell (i := 3) rfl
  go_wp2_with fail
  refine (rAdd_any W (m := 4) (hl.below q) hs hn (hx0.below q) hxs).mono ?_
  rintro e w1 ⟨ao, ko, co, rfl, hO, hb⟩
  clear c0 c1 c2 c3
  have hqs := q.size
  go_wp2_with fail
  go_ret2
  exact ⟨_, _, _, rfl, hO.to (by omega) (by omega), q.trans (hb.mono q.size)⟩
def x13 : Sp := ⟨0, [98], [], true⟩
def w13 (t : Int) (k : UInt8) : Wr := ⟨t, [k], false, []⟩
def p13 (s : Int) : Ps := ⟨0, s, false, [], [], false⟩
def v13 (s : Int) : Lv := ⟨s, []⟩
theorem add13_1 : addS [] x13 4 = ([x13], 0) := by decide
theorem add13_2 : addS [x13] ⟨4, [], [], false⟩ 4 = ([x13], 1) := by decide
theorem hit13_1 : hitL [x13] [w13 0 99] = true := by decide
theorem hit13_2 : hitL [x13] [w13 0 97] = false := by decide
theorem same13_1 : sameW [w13 0 99] [w13 0 99] = true := by decide
theorem same13_2 : sameW [w13 0 99] [w13 1 99] = false := by decide
theorem keep13_1 : keepP [p13 3, p13 5] [v13 9, v13 3] = [p13 5] := by decide
theorem keep13_2 : keepP [p13 3, p13 5] [] = [] := by decide
theorem run_past2 (w : World) (s t : Int) : (Instr.buildSlice 27 2 #[(0, .agg #[.int .i64 0, .int .i64 s, .bool false, .slice none 0 0, .slice none 0 0, .bool false]), (1, .agg #[.int .i64 0, .int .i64 t, .bool false, .slice none 0 0, .slice none 0 0, .bool false])]).run Try.prog w = .ok (.slice (some ⟨w.heap.size, 0, none⟩) 2 2) (w.alloc (.cells #[.int .i64 0, .int .i64 s, .bool false, .slice none 0 0, .slice none 0 0, .bool false, .int .i64 0, .int .i64 t, .bool false, .slice none 0 0, .slice none 0 0, .bool false] 49)) := by kernel_rfl
theorem run_live2 (w : World) (s t : Int) : (Instr.buildSlice 28 2 #[(0, .agg #[.int .i64 s, .slice none 0 0]), (1, .agg #[.int .i64 t, .slice none 0 0])]).run Try.prog w = .ok (.slice (some ⟨w.heap.size, 0, none⟩) 2 2) (w.alloc (.cells #[.int .i64 s, .slice none 0 0, .int .i64 t, .slice none 0 0] 46)) := by kernel_rfl
attribute [local go_sem] run_past2 run_live2
theorem rd_two {α : Type} {E : Elt α} {w : World} {b : Nat} {t : TypeId} {x y : α} {us vs : List Value} (hb : BoxN w b t (us ++ vs)) (hx : E.R (fun _ => True) w x us) (hy : E.R (fun _ => True) w y vs) : RdL E (fun _ => True) w (.slice (some ⟨b, 0, none⟩) 2 2) [x, y] :=
  ⟨_, 2, rfl, Nat.le_refl _, by unfold maxLen; omega, .inr ⟨b, 0, rfl, trivial, fun r h => by
    have hl := E.len hx
    match r, h with
    | 0, _ => exact ⟨us, hx, fun j u hj => by
        have := hb.cell (i := j) (u := u) (by rw [List.getElem?_append_left (List.getElem?_eq_some_iff.1 hj).1]; exact hj)
        simpa using this⟩
    | 1, _ => exact ⟨vs, hy, fun j u hj => by
        have := hb.cell (i := E.size + j) (u := u) (by rw [List.getElem?_append_right (by omega), hl, Nat.add_sub_cancel_left]; exact hj)
        simpa using this⟩⟩⟩
set_option maxRecDepth 100000 in
set_option maxHeartbeats 16000000 in
theorem awake13_any (w : World) : Calls Try.prog 7 #[] w fun e w' => e = .returned (.bool true) ∧ Below w.heap.size w w' := by
  go_enter Try.func7, Try.ntmps7
  try dsimp only [List.append]
  have q := Below.refl w.heap.size w
  go_wp2_with (first | (refine wpList_byte1 byP rfl (fun _ => rfl) rfl rfl (by first | (simp; done) | (simp [Act.put]; done)) rfl (by decide) ?_; intro u1 g1 k1 w1 hb1 hr1) | fail)
  obtain rfl : k1 = 1 := hr1.s.len.1
  replace hr1 : RdS (fun _ => True) _ (.slice (some ⟨g1, 0, none⟩) 1 1) [98] := hr1.s.weak fun _ _ => trivial
  replace q := q.trans (hb1.mono q.size)
  clear hb1
  have hcl := sNote_any _ (x := x13) (RdL.nil Elt.sp (fun _ => True) _) (by unfold smL; simp) (by simp) (S2 := fun _ => True) ⟨some ⟨g1, 0, none⟩, 1, none, 0, rfl, hr1, RdS.nil _ _, by unfold W64; decide⟩ (by unfold smS; decide)
  rw [add13_1] at hcl
  refine hcl.mono ?_
  rintro e w2 ⟨aL, kL, cL, rfl, hO, hb⟩
  obtain rfl : kL = 1 := hO.len
  have rL : RdL Elt.sp (fun _ => True) _ (.slice aL 1 cL) [x13] := hO.rdL.weak fun _ _ => trivial
  clear hcl hO hr1
  replace q := q.trans (hb.mono q.size)
  clear hb
  go_upto_region 2 with (fail)
  have hcl := sNote_any _ (x := ⟨4, [], [], false⟩) rL (by unfold smL smS; decide) (by decide) (S2 := fun _ => True) ⟨none, 0, none, 0, rfl, RdS.nil _ _, RdS.nil _ _, by unfold W64; decide⟩ (by unfold smS; decide)
  rw [add13_2] at hcl
  go_wp2_with fail
  refine hcl.mono ?_
  rintro e w3 ⟨aN, kN, cN, rfl, _, hb⟩
  clear hcl
  replace rL := rL.below hb
  replace q := q.trans (hb.mono q.size)
  clear hb
  go_upto_region 3 with (fail)
  go_upto_region 4 with (first | (refine wpList_byte1 byP rfl (fun _ => rfl) rfl rfl (by first | (simp; done) | (simp [Act.put]; done)) rfl (by decide) ?_; intro u1 g1 k1 w1 hb1 hr1) | (obtain rfl : k1 = 1 := hr1.s.len.1; refine wpList_buildOne wrP rfl rfl rfl (us := [.int .i64 0, .slice (some ⟨g1, 0, none⟩) 1 1, .bool false, .slice none 0 0]) rfl rfl (by decide) (by decide) ?_; intro w5 hb5 hrow) | fail)
  replace hr1 : RdS (fun _ => True) _ (.slice (some ⟨g1, 0, none⟩) 1 1) [99] := hr1.s.weak fun _ _ => trivial
  replace rL := rL.below hb1
  replace q := q.trans (hb1.mono q.size)
  clear hb1
  replace rL := rL.below hb5
  replace hr1 := hr1.below hb5
  replace q := q.trans (hb5.mono q.size)
  have rW : RdL Elt.wr (fun _ => True) w5 (.slice (some ⟨w1.heap.size, 0, none⟩) 1 1) [w13 0 99] := RdL.made (E := Elt.wr) ⟨_, _, rfl, hr1, RdS.nil _ _, by unfold W64; decide⟩ hrow trivial
  clear hr1 hrow hb5
  obtain ⟨gW, hgW⟩ : ∃ gW, gW = w1.heap.size := ⟨_, rfl⟩
  rw [← hgW] at rW
  rw [← hgW]
  clear hgW
  go_upto_region 5 with (fail)
  obtain ⟨W, hW, hbW, bP, hsz⟩ := spBox w5 49 ([.int .i64 0, .int .i64 3, .bool false, .slice none 0 0, .slice none 0 0, .bool false] ++ [.int .i64 0, .int .i64 5, .bool false, .slice none 0 0, .slice none 0 0, .bool false])
  rw [show w5.alloc (.cells #[.int .i64 0, .int .i64 3, .bool false, .slice none 0 0, .slice none 0 0, .bool false, .int .i64 0, .int .i64 5, .bool false, .slice none 0 0, .slice none 0 0, .bool false] 49) = W from hW.symm]
  clear hW hsz
  replace rL := rL.below hbW
  replace rW := rW.below hbW
  replace q := q.trans (hbW.mono q.size)
  clear hbW
  have rP : RdL Elt.ps (fun _ => True) _ (.slice (some ⟨w5.heap.size, 0, none⟩) 2 2) [p13 3, p13 5] := rd_two bP ⟨_, _, rfl, RdL.nil _ _ _, RdL.nil _ _ _, by unfold W64; decide, by unfold W64; decide⟩ ⟨_, _, rfl, RdL.nil _ _ _, RdL.nil _ _ _, by unfold W64; decide, by unfold W64; decide⟩
  clear bP
  obtain ⟨gP, hgP⟩ : ∃ gP, gP = w5.heap.size := ⟨_, rfl⟩
  rw [← hgP] at rP
  rw [← hgP]
  clear hgP
  obtain ⟨V, hV, hbV, bV, hsz⟩ := spBox W 46 ([.int .i64 9, .slice none 0 0] ++ [.int .i64 3, .slice none 0 0])
  clear hsz
  replace hV := Lib.hid (show V = W.alloc (.cells #[.int .i64 9, .slice none 0 0, .int .i64 3, .slice none 0 0] 46) from hV)
  replace rL := rL.below hbV
  replace rW := rW.below hbV
  replace rP := rP.below hbV
  replace q := q.trans (hbV.mono q.size)
  have rV : RdL Elt.lv (fun _ => True) V (.slice (some ⟨W.heap.size, 0, none⟩) 2 2) [v13 9, v13 3] := rd_two bV ⟨_, rfl, RdL.nil _ _ _, by unfold W64; decide⟩ ⟨_, rfl, RdL.nil _ _ _, by unfold W64; decide⟩
  have hcl := sKeep_any V rP rV ⟨by decide, fun p hp => by simp at hp; rcases hp with rfl | rfl <;> exact ⟨⟨by decide, fun y hy => by cases hy⟩, by decide, fun y hy => by cases hy⟩⟩
  rw [keep13_1] at hcl
  rw [show V = W.alloc (.cells #[.int .i64 9, .slice none 0 0, .int .i64 3, .slice none 0 0] 46) from hV.out] at hcl
  go_wp2_with fail
  refine hcl.mono ?_
  rw [show W.alloc (.cells #[.int .i64 9, .slice none 0 0, .int .i64 3, .slice none 0 0] 46) = V from hV.out.symm]
  rintro e w6 ⟨aK, cK, rfl, hO, hb⟩
  have rK : RdL Elt.ps (fun _ => True) _ (.slice aK 1 cK) [p13 5] := hO.rdL.weak fun _ _ => trivial
  clear hcl hO bV rV hbV hV
  replace rL := rL.below hb
  replace rW := rW.below hb
  replace rP := rP.below hb
  replace q := q.trans (hb.mono q.size)
  clear hb
  go_upto_region 6 with (fail)
  have hcl := sHit_any _ rL rW
  rw [hit13_1] at hcl
  go_wp2_with fail
  refine hcl.mono ?_
  rintro e wq ⟨rfl, hb⟩
  clear hcl
  replace rL := rL.below hb
  replace rW := rW.below hb
  replace rP := rP.below hb
  replace rK := rK.below hb
  replace q := q.trans (hb.mono q.size)
  clear hb
  go_wp2_with (first | (refine wpList_byte1 byP rfl (fun _ => rfl) rfl rfl (by first | (simp; done) | (simp [Act.put]; done)) rfl (by decide) ?_; intro u1 g1 k1 w1 hb1 hr1) | (obtain rfl : k1 = 1 := hr1.s.len.1; refine wpList_buildOne wrP rfl rfl rfl (us := [.int .i64 0, .slice (some ⟨g1, 0, none⟩) 1 1, .bool false, .slice none 0 0]) rfl rfl (by decide) (by decide) ?_; intro w8 hb8 hrow) | fail)
  replace hr1 : RdS (fun _ => True) _ (.slice (some ⟨g1, 0, none⟩) 1 1) [97] := hr1.s.weak fun _ _ => trivial
  replace rL := rL.below hb1
  replace rW := rW.below hb1
  replace rP := rP.below hb1
  replace rK := rK.below hb1
  replace q := q.trans (hb1.mono q.size)
  clear hb1
  replace rL := rL.below hb8
  replace rW := rW.below hb8
  replace rP := rP.below hb8
  replace rK := rK.below hb8
  replace hr1 := hr1.below hb8
  replace q := q.trans (hb8.mono q.size)
  have rA : RdL Elt.wr (fun _ => True) w8 (.slice (some ⟨w1.heap.size, 0, none⟩) 1 1) [w13 0 97] := RdL.made (E := Elt.wr) ⟨_, _, rfl, hr1, RdS.nil _ _, by unfold W64; decide⟩ hrow trivial
  clear hr1 hrow hb8
  have hcl := sHit_any _ rL rA
  rw [hit13_2] at hcl
  refine hcl.mono ?_
  rintro e wq ⟨rfl, hb⟩
  clear hcl rA
  replace rL := rL.below hb
  replace rW := rW.below hb
  replace rP := rP.below hb
  replace rK := rK.below hb
  replace q := q.trans (hb.mono q.size)
  clear hb
  have hcl := sSame_any _ rW rW
  rw [same13_1] at hcl
  go_wp2_with fail
  refine hcl.mono ?_
  rintro e wq ⟨rfl, hb⟩
  clear hcl
  replace rL := rL.below hb
  replace rW := rW.below hb
  replace rP := rP.below hb
  replace rK := rK.below hb
  replace q := q.trans (hb.mono q.size)
  clear hb
  go_wp2_with (first | (refine wpList_byte1 byP rfl (fun _ => rfl) rfl rfl (by first | (simp; done) | (simp [Act.put]; done)) rfl (by decide) ?_; intro u1 g1 k1 w1 hb1 hr1) | (obtain rfl : k1 = 1 := hr1.s.len.1; refine wpList_buildOne wrP rfl rfl rfl (us := [.int .i64 1, .slice (some ⟨g1, 0, none⟩) 1 1, .bool false, .slice none 0 0]) rfl rfl (by decide) (by decide) ?_; intro w8 hb8 hrow) | fail)
  replace hr1 : RdS (fun _ => True) _ (.slice (some ⟨g1, 0, none⟩) 1 1) [99] := hr1.s.weak fun _ _ => trivial
  replace rL := rL.below hb1
  replace rW := rW.below hb1
  replace rP := rP.below hb1
  replace rK := rK.below hb1
  replace q := q.trans (hb1.mono q.size)
  clear hb1
  replace rL := rL.below hb8
  replace rW := rW.below hb8
  replace rP := rP.below hb8
  replace rK := rK.below hb8
  replace hr1 := hr1.below hb8
  replace q := q.trans (hb8.mono q.size)
  have rB : RdL Elt.wr (fun _ => True) w8 (.slice (some ⟨w1.heap.size, 0, none⟩) 1 1) [w13 1 99] := RdL.made (E := Elt.wr) ⟨_, _, rfl, hr1, RdS.nil _ _, by unfold W64; decide⟩ hrow trivial
  clear hr1 hrow hb8
  have hcl := sSame_any _ rW rB
  rw [same13_2] at hcl
  refine hcl.mono ?_
  rintro e wq ⟨rfl, hb⟩
  clear hcl rB
  replace rL := rL.below hb
  replace rW := rW.below hb
  replace rP := rP.below hb
  replace rK := rK.below hb
  replace q := q.trans (hb.mono q.size)
  clear hb
  go_wp2_with (first | (refine wpList_sliceL psP.toLsP rfl rfl rfl rP rfl ?_ (by decide) (by decide); intro aQ cQ rQ2) | fail)
  replace rQ2 : RdL Elt.ps (fun _ => True) _ (.slice aQ 1 cQ) [p13 5] := rQ2
  have hcl := rAllP_any _ rK rQ2
  rw [decide_eq_true (rfl : [p13 5] = [p13 5])] at hcl
  refine hcl.mono ?_
  rintro e wq ⟨rfl, hb⟩
  clear hcl rQ2
  replace rL := rL.below hb
  replace rW := rW.below hb
  replace rP := rP.below hb
  replace rK := rK.below hb
  replace q := q.trans (hb.mono q.size)
  clear hb
  have hcl := sKeep_any _ rP (RdL.nil Elt.lv (fun _ => True) _) ⟨by decide, fun p hp => by simp at hp; rcases hp with rfl | rfl <;> exact ⟨⟨by decide, fun y hy => by cases hy⟩, by decide, fun y hy => by cases hy⟩⟩
  rw [keep13_2] at hcl
  go_wp2_with fail
  refine hcl.mono ?_
  rintro e w9 ⟨aZ, cZ, rfl, _, hb⟩
  clear hcl
  replace rL := rL.below hb
  replace rW := rW.below hb
  replace rP := rP.below hb
  replace rK := rK.below hb
  replace q := q.trans (hb.mono q.size)
  clear hb
  go_wp2_with fail
  go_ret
  exact ⟨rfl, q⟩
end Go.Proofs.Ytmcleffpjfeegaa
namespace Go.Proofs.Ytmcleffpjfeegaa
open Go.RowKit Go.Shelf
set_option maxRecDepth 100000 in
set_option maxHeartbeats 32000000 in
theorem ReadsTell_w (w : World) {cs1 : Array Value} {l1 r1 s1 p1 v1 : Option Addr} {l2 l3 r2 r3 s2 s3 p2 p3 v2 v3 : Nat} {l : List Sp} {x : Sp} {a b : List Wr} {P : List Ps} {V : List Lv} (h0 : RdL Elt.sp (· < w.heap.size) w (.slice l1 l2 l3) l) (h1 : RdSp (· < w.heap.size) w (.agg cs1) x) (h2 : RdL Elt.wr (· < w.heap.size) w (.slice r1 r2 r3) a) (h3 : RdL Elt.wr (· < w.heap.size) w (.slice s1 s2 s3) b) (h4 : RdL Elt.ps (· < w.heap.size) w (.slice p1 p2 p3) P) (h5 : RdL Elt.lv (· < w.heap.size) w (.slice v1 v2 v3) V) :
    Calls Try.prog 3 #[.slice l1 l2 l3, .agg cs1, .slice r1 r2 r3, .slice s1 s2 s3, .slice p1 p2 p3, .slice v1 v2 v3] w fun e w' => e = .returned (.bool true) ∧ Below w.heap.size w w' := by
  have hx := h1
  obtain ⟨a1, a2, a3, a4, e, hlx, hhx, htx⟩ := h1
  injection e with e
  subst e
  clear hlx hhx htx
  have hls := h0
  obtain ⟨rfl, _, lm⟩ := h0.len
  have ha := h2
  obtain ⟨rfl, _, _⟩ := h2.len
  have hbb := h3
  obtain ⟨rfl, _, _⟩ := h3.len
  have hp := h4
  obtain ⟨rfl, _, _⟩ := h4.len
  have hv := h5
  obtain ⟨rfl, _, _⟩ := h5.len
  clear lm h0 h2 h3 h4 h5
  obtain ⟨W0, hW, q, Bx, hsz⟩ := spBox w 25 [.int .i64 x.table, .slice a1 x.lo.length a2, .slice a3 x.hi.length a4, .bool x.isOpen]
  clear hsz
  go_enter Try.func3, Try.ntmps3
  go_upto_region 1 with (fail)
  rw [show w.alloc (.cells #[.int .i64 x.table, .slice a1 x.lo.length a2, .slice a3 x.hi.length a4, .bool x.isOpen] 25) = W0 from hW.symm]
  clear hW
  go_wp2_with fail
  refine (awake13_any W0).mono ?_
  rintro e w1 ⟨rfl, hb⟩
  replace Bx := Bx.below hb Bx.lt
  replace q := q.trans (hb.mono q.size)
  clear hb
  have hcl := few13_any _ (hls.below q) (ha.below q) (hbb.below q)
  go_wp2_with fail
  refine hcl.mono ?_
  rintro e wq ⟨rfl, hb⟩
  clear hcl
  replace Bx := Bx.below hb Bx.lt
  replace q := q.trans (hb.mono q.size)
  clear hb
  by_cases hf : fewS l ∧ fewD ⟨a, []⟩ ∧ fewD ⟨b, []⟩
  case neg =>
    rw [decide_eq_false hf]
    go_wp2_with fail
    go_ret
    exact ⟨rfl, q⟩
  rw [decide_eq_true hf]
  have cx0 := Bx.cell (i := 0) rfl
  have cx1 := Bx.cell (i := 1) rfl
  have cx2 := Bx.cell (i := 2) rfl
  have cx3 := Bx.cell (i := 3) rfl
  rcases Nat.lt_or_ge 100 x.lo.length with g0 | g0
  · have d0 : decide ((100 : Int) < (x.lo.length : Int)) = true := decide_eq_true (by omega)
    go_wp2_with fail
    go_ret
    exact ⟨rfl, q⟩
  have d0 : decide ((100 : Int) < (x.lo.length : Int)) = false := decide_eq_false (by omega)
  rcases Nat.lt_or_ge 100 x.hi.length with g1 | g1
  · have d1 : decide ((100 : Int) < (x.hi.length : Int)) = true := decide_eq_true (by omega)
    go_wp2_with fail
    go_ret
    exact ⟨rfl, q⟩
  have d1 : decide ((100 : Int) < (x.hi.length : Int)) = false := decide_eq_false (by omega)
  have hcl := rFewP_any _ (hp.below q) (hv.below q)
  go_wp2_with fail
  refine hcl.mono ?_
  rintro e wq ⟨rfl, hb⟩
  clear cx0 cx1 cx2 cx3 d0 d1
  clear hcl
  replace Bx := Bx.below hb Bx.lt
  replace q := q.trans (hb.mono q.size)
  clear hb
  by_cases hfp : fewPs P V
  case neg =>
    rw [decide_eq_false hfp]
    go_wp2_with fail
    go_ret
    exact ⟨rfl, q⟩
  rw [decide_eq_true hfp]
  have hsm : smL l := ⟨by have := hf.1.1; omega, fun y hy => by have := hf.1.2 y hy; exact ⟨by omega, by omega⟩⟩
  have hln : l.length ≤ 100 := hf.1.1
  have hsx : smS x := ⟨by omega, by omega⟩
  have hps := few_sm hfp
  clear hf hfp g0 g1
  obtain ⟨la, er, hadd⟩ : ∃ la er, addS l x 4 = (la, er) := ⟨_, _, rfl⟩
  replace hadd := Lib.hid hadd
  have cx0 := Bx.cell (i := 0) rfl
  have cx1 := Bx.cell (i := 1) rfl
  have cx2 := Bx.cell (i := 2) rfl
  have cx3 := Bx.cell (i := 3) rfl
  have hcl := sNote_any _ (hls.below q) hsm (by omega) (hx.below q) hsx
  rw [hadd.out] at hcl
  go_wp2_with fail
  refine hcl.mono ?_
  rintro e wq ⟨aA, kA, cA, rfl, hO, hb⟩
  obtain rfl : kA = la.length := hO.len
  have rA : RdL Elt.sp (fun _ => True) _ (.slice aA la.length cA) la := hO.rdL.weak fun _ _ => trivial
  clear hO
  clear cx0 cx1 cx2 cx3
  clear hcl
  replace Bx := Bx.below hb Bx.lt
  replace q := q.trans (hb.mono q.size)
  clear hb
  have cx0 := Bx.cell (i := 0) rfl
  have cx1 := Bx.cell (i := 1) rfl
  have cx2 := Bx.cell (i := 2) rfl
  have cx3 := Bx.cell (i := 3) rfl
  have hcl := rNote_any _ (hls.below q) hsm (by omega) (hx.below q) hsx
  rw [hadd.out] at hcl
  go_wp2_with fail
  refine hcl.mono ?_
  rintro e wq ⟨aB, kB, cB, rfl, hO, hb⟩
  obtain rfl : kB = la.length := hO.len
  have rB : RdL Elt.sp (fun _ => True) _ (.slice aB la.length cB) la := hO.rdL.weak fun _ _ => trivial
  clear hO
  clear cx0 cx1 cx2 cx3
  clear hcl
  replace Bx := Bx.below hb Bx.lt
  replace rA := rA.below hb
  replace q := q.trans (hb.mono q.size)
  clear hb
  have hcl := rSame_any _ rA rB
  rw [decide_eq_true (rfl : la = la)] at hcl
  go_wp2_with fail
  refine hcl.mono ?_
  rintro e wq ⟨rfl, hb⟩
  clear hcl
  replace Bx := Bx.below hb Bx.lt
  replace rA := rA.below hb
  replace rB := rB.below hb
  replace q := q.trans (hb.mono q.size)
  clear hb
  clear rA rB
  have hcl := sKeep_any _ (hp.below q) (hv.below q) hps
  go_wp2_with fail
  refine hcl.mono ?_
  rintro e wq ⟨aC, cC, rfl, hO, hb⟩
  have rC : RdL Elt.ps (fun _ => True) _ (.slice aC (keepP P V).length cC) (keepP P V) := hO.rdL.weak fun _ _ => trivial
  clear hO
  clear hcl
  replace Bx := Bx.below hb Bx.lt
  replace q := q.trans (hb.mono q.size)
  clear hb
  have hcl := rKeepP_any _ (hp.below q) (hv.below q) hps
  go_wp2_with fail
  refine hcl.mono ?_
  rintro e wq ⟨aD, cD, rfl, hO, hb⟩
  have rD : RdL Elt.ps (fun _ => True) _ (.slice aD (keepP P V).length cD) (keepP P V) := hO.rdL.weak fun _ _ => trivial
  clear hO
  clear hcl
  replace Bx := Bx.below hb Bx.lt
  replace rC := rC.below hb
  replace q := q.trans (hb.mono q.size)
  clear hb
  have hcl := rAllP_any _ rC rD
  rw [decide_eq_true (rfl : keepP P V = keepP P V)] at hcl
  go_wp2_with fail
  refine hcl.mono ?_
  rintro e wq ⟨rfl, hb⟩
  clear hcl
  replace Bx := Bx.below hb Bx.lt
  replace rC := rC.below hb
  replace rD := rD.below hb
  replace q := q.trans (hb.mono q.size)
  clear hb
  clear rC rD
  have de : ((er : Int) == (er : Int)) = true := beq_self_eq_true _
  have de2 : decide ((er : Int) = (er : Int)) = true := decide_eq_true rfl
  obtain ⟨t1, et1⟩ : ∃ t, t = hitL l a := ⟨_, rfl⟩
  replace et1 := Lib.hid et1
  have hcl := sHit_any _ (hls.below q) (ha.below q)
  rw [← et1.out] at hcl
  go_wp2_with fail
  refine hcl.mono ?_
  rintro e wq ⟨rfl, hb⟩
  clear hcl
  replace Bx := Bx.below hb Bx.lt
  replace q := q.trans (hb.mono q.size)
  clear hb
  have hcl := rHit_any _ (hls.below q) (ha.below q)
  rw [← et1.out] at hcl
  go_wp2_with fail
  refine hcl.mono ?_
  rintro e wq ⟨rfl, hb⟩
  clear hcl
  replace Bx := Bx.below hb Bx.lt
  replace q := q.trans (hb.mono q.size)
  clear hb
  have dt1 : (t1 == t1) = true := beq_self_eq_true t1
  obtain ⟨t2, et2⟩ : ∃ t, t = sameW a b := ⟨_, rfl⟩
  replace et2 := Lib.hid et2
  have hcl := sSame_any _ (ha.below q) (hbb.below q)
  rw [← et2.out] at hcl
  go_wp2_with fail
  refine hcl.mono ?_
  rintro e wq ⟨rfl, hb⟩
  clear hcl
  replace Bx := Bx.below hb Bx.lt
  replace q := q.trans (hb.mono q.size)
  clear hb
  have hcl := rSameW_any _ (ha.below q) (hbb.below q)
  rw [← et2.out] at hcl
  go_wp2_with fail
  refine hcl.mono ?_
  rintro e wq ⟨rfl, hb⟩
  clear hcl
  replace Bx := Bx.below hb Bx.lt
  replace q := q.trans (hb.mono q.size)
  clear hb
  have dt2 : (t2 == t2) = true := beq_self_eq_true t2
  go_wp2_with fail
  go_ret
  exact ⟨rfl, q⟩
end Go.Proofs.Ytmcleffpjfeegaa
namespace Go.Proofs.Ytmcleffpjfeegaa
open Go.RowKit Go.Shelf
theorem first_of {t : Int} : ∀ {l : List Sp} {x : Sp}, x ∈ l → x.table = t → ∃ (j : Nat) (h : j < l.length), l[j].table = t ∧ ∀ y ∈ l.take j, y.table ≠ t
  | s :: l, x, hx, e => by
    by_cases h : s.table = t
    · exact ⟨0, by simp, h, by simp⟩
    · rcases List.mem_cons.1 hx with h1 | h1
      · rw [h1] at e; exact absurd e h
      · obtain ⟨j, hj, h2, h3⟩ := first_of h1 e
        exact ⟨j + 1, by simpa using hj, by simpa using h2, fun y hy => by
          rw [List.take_succ_cons] at hy
          rcases List.mem_cons.1 hy with h4 | h4
          · rw [h4]; exact h
          · exact h3 y h4⟩
theorem all_inT (t : Int) (k : List UInt8) : inT (allS t) t k = true := by
  have h : ltB k [] = false := by unfold ltB; cases k <;> rfl
  unfold inT inS allS
  simp [h]
theorem add_in {l : List Sp} {x : Sp} {m t : Int} {k : List UInt8} (h : (addS l x m).2 = 0) (hin : (∃ s ∈ l, inT s t k = true) ∨ inT x t k = true) : ∃ s ∈ (addS l x m).1, inT s t k = true := by
  unfold addS at h ⊢
  by_cases hok : okA l x m
  case neg => rw [if_neg hok] at h; cases h
  rw [if_pos hok] at h ⊢
  by_cases hs : stays l x = true
  · rw [if_pos hs]
    rcases hin with hin | hx
    · exact hin
    · rw [inT_iff] at hx
      unfold stays at hs
      rw [Bool.or_eq_true, List.any_eq_true] at hs
      rcases hs with h1 | ⟨s, h1, h2⟩
      · rw [empty_in h1] at hx; cases hx.2
      · obtain ⟨h3, h4⟩ := covers_in h2 hx.2
        exact ⟨s, h1, inT_iff.2 ⟨h3.trans hx.1, h4⟩⟩
  rw [if_neg hs] at h ⊢
  have hout : ∃ s ∈ besideS l x ++ [x], inT s t k = true := by
    rcases hin with ⟨s, h1, h2⟩ | hx
    · cases hc : coversS x s with
      | true =>
        rw [inT_iff] at h2
        obtain ⟨h3, h4⟩ := covers_in hc h2.2
        exact ⟨x, by simp, inT_iff.2 ⟨h3.trans h2.1, h4⟩⟩
      | false => exact ⟨s, List.mem_append_left _ (List.mem_filter.2 ⟨h1, by rw [hc]; rfl⟩), h2⟩
    · exact ⟨x, by simp, hx⟩
  by_cases hc : (manyT x.table (besideS l x ++ [x]) : Int) ≤ m
  · rw [if_pos hc]
    exact hout
  · rw [if_neg hc]
    generalize ho : besideS l x ++ [x] = os at hout hc
    have hx : x ∈ os := by rw [← ho]; simp
    obtain ⟨j, hj, hjt, hno⟩ := first_of hx rfl
    obtain ⟨e1, _⟩ := oneT_at x.table os j hj hjt hno
    have hmem : ∀ s, s ∈ notT x.table os ∨ s = allS x.table → s ∈ oneT x.table false os := fun s hs => by
      rw [e1, List.mem_append, List.mem_append, List.mem_singleton]
      rcases hs with h1 | h1
      · rw [← List.take_append_drop j (notT x.table os), List.mem_append] at h1
        rcases h1 with h1 | h1
        · exact .inl (.inl h1)
        · exact .inr h1
      · exact .inl (.inr h1)
    by_cases ht : t = x.table
    · exact ⟨_, hmem _ (.inr rfl), by rw [ht]; exact all_inT _ _⟩
    · obtain ⟨s, h2, h3⟩ := hout
      refine ⟨s, hmem _ (.inl (List.mem_filter.2 ⟨h2, ?_⟩)), h3⟩
      have := (inT_iff.1 h3).1
      simp only [Bool.not_eq_true', decide_eq_false_iff_not]
      exact fun e => ht (this.symm.trans e)
theorem hit_hold {l : List Sp} {x : Sp} {m : Int} {ws : List Wr} (h : (addS l x m).2 = 0) (hh : (hitL l ws || hitL [x] ws) = true) : hitL (addS l x m).1 ws = true := by
  unfold hitL at hh ⊢
  rw [Bool.or_eq_true, List.any_eq_true, List.any_eq_true] at hh
  rw [List.any_eq_true]
  rcases hh with ⟨y, hy, h1⟩ | ⟨y, hy, h1⟩
  · exact ⟨y, hy, List.any_eq_true.2 (add_in h (.inl (List.any_eq_true.1 h1)))⟩
  · exact ⟨y, hy, List.any_eq_true.2 (add_in h (.inr (by simpa using h1)))⟩
theorem ltB_snoc : ∀ k : List UInt8, ltB k (k ++ [0]) = true
  | [] => rfl
  | x :: k => by
    have h := ltB_snoc k
    unfold ltB at h ⊢
    simp [Op.bytesLess, h]
theorem hit_point {y : Wr} {ws : List Wr} (h : y ∈ ws) : hitL [pointS y.table y.key] ws = true := by
  unfold hitL
  refine List.any_eq_true.2 ⟨y, h, ?_⟩
  have h1 : inT (pointS y.table y.key) y.table y.key = true := inT_iff.2 ⟨rfl, inS_iff.2 ⟨ltB_irrefl _, .inr (ltB_snoc _)⟩⟩
  simp [h1]
theorem eqW_self (x : Wr) : eqW x x = true := by unfold eqW; simp
theorem same_self (ws : List Wr) : sameW ws ws = decide ((0 : Int) < (ws.length : Int)) := by
  cases ws with
  | nil => rfl
  | cons x r =>
    rw [decide_eq_true (by rw [List.length_cons]; omega)]
    unfold sameW
    simp [eqW_self]
theorem hit_nil (ws : List Wr) : hitL [] ws = false := by unfold hitL; simp
theorem hit_none (l : List Sp) : hitL l [] = false := rfl
theorem RdSp.toR {S : Nat → Prop} {w : World} {v : Value} {x : Sp} (h : RdSp S w v x) : ∃ us : List Value, v = .agg us.toArray ∧ Elt.sp.R S w x us ∧ us.length = 4 := by
  obtain ⟨a, c, a2, c2, rfl, h1, h2, h3⟩ := h
  exact ⟨_, rfl, ⟨_, _, rfl, h1, h2, h3⟩, rfl⟩
def sgVSp (x : Sp) : SG := ⟨fun w v => RdSp (fun _ => True) w v x, fun _ _ _ h hb => h.below hb⟩
def sgVSps (l : List Sp) : SG := ⟨fun w v => ∃ a c, v = .slice a l.length c ∧ RdL Elt.sp (fun _ => True) w (.slice a l.length c) l, fun _ _ _ ⟨a, c, e, h⟩ hb => ⟨a, c, e, h.below hb⟩⟩
set_option maxRecDepth 100000 in
set_option maxHeartbeats 32000000 in
theorem ReadsHold_w (w : World) {cs1 : Array Value} {l1 r1 : Option Addr} {l2 l3 r2 r3 : Nat} {l : List Sp} {x : Sp} {a : List Wr} (h0 : RdL Elt.sp (· < w.heap.size) w (.slice l1 l2 l3) l) (h1 : RdSp (· < w.heap.size) w (.agg cs1) x) (h2 : RdL Elt.wr (· < w.heap.size) w (.slice r1 r2 r3) a) :
    Calls Try.prog 4 #[.slice l1 l2 l3, .agg cs1, .slice r1 r2 r3] w fun e w' => e = .returned (.bool true) ∧ Below w.heap.size w w' := by
  have hx := h1
  obtain ⟨a1, a2, a3, a4, e, hlx, hhx, htx⟩ := h1
  injection e with e
  subst e
  clear hlx hhx htx
  have hls := h0
  obtain ⟨rfl, _, lm⟩ := h0.len
  have ha := h2
  obtain ⟨rfl, _, _⟩ := h2.len
  clear lm h0 h2
  obtain ⟨W0, hW, q, Bx, hsz⟩ := spBox w 25 [.int .i64 x.table, .slice a1 x.lo.length a2, .slice a3 x.hi.length a4, .bool x.isOpen]
  clear hsz
  go_enter Try.func4, Try.ntmps4
  go_upto_region 1 with (fail)
  rw [show w.alloc (.cells #[.int .i64 x.table, .slice a1 x.lo.length a2, .slice a3 x.hi.length a4, .bool x.isOpen] 25) = W0 from hW.symm]
  clear hW
  go_wp2_with fail
  refine (awake13_any W0).mono ?_
  rintro e w1 ⟨rfl, hb⟩
  replace Bx := Bx.below hb Bx.lt
  replace q := q.trans (hb.mono q.size)
  clear hb
  have hcl := few13_any _ (hls.below q) (ha.below q) (RdL.nil Elt.wr (fun _ => True) _)
  go_wp2_with fail
  refine hcl.mono ?_
  rintro e wq ⟨rfl, hb⟩
  clear hcl
  replace Bx := Bx.below hb Bx.lt
  replace q := q.trans (hb.mono q.size)
  clear hb
  by_cases hf : fewS l ∧ fewD ⟨a, []⟩ ∧ fewD ⟨[], []⟩
  case neg =>
    rw [decide_eq_false hf]
    go_wp2_with fail
    go_ret
    exact ⟨rfl, q⟩
  rw [decide_eq_true hf]
  have cx0 := Bx.cell (i := 0) rfl
  have cx1 := Bx.cell (i := 1) rfl
  have cx2 := Bx.cell (i := 2) rfl
  have cx3 := Bx.cell (i := 3) rfl
  rcases Nat.lt_or_ge 100 x.lo.length with g0 | g0
  · have d0 : decide ((100 : Int) < (x.lo.length : Int)) = true := decide_eq_true (by omega)
    go_wp2_with fail
    go_ret
    exact ⟨rfl, q⟩
  have d0 : decide ((100 : Int) < (x.lo.length : Int)) = false := decide_eq_false (by omega)
  rcases Nat.lt_or_ge 100 x.hi.length with g1 | g1
  · have d1 : decide ((100 : Int) < (x.hi.length : Int)) = true := decide_eq_true (by omega)
    go_wp2_with fail
    go_ret
    exact ⟨rfl, q⟩
  have d1 : decide ((100 : Int) < (x.hi.length : Int)) = false := decide_eq_false (by omega)
  have hsm : smL l := ⟨by have := hf.1.1; omega, fun y hy => by have := hf.1.2 y hy; exact ⟨by omega, by omega⟩⟩
  have hln : l.length ≤ 100 := hf.1.1
  have hsx : smS x := ⟨by omega, by omega⟩
  have hal : a.length ≤ 30 := hf.2.1.1
  have hak := Lib.hid hf.2.1.2.2
  clear hf
  have hmath := Lib.hid (fun h => hit_hold (l := l) (x := x) (m := 4) (ws := a) h)
  obtain ⟨la, er, hadd⟩ : ∃ la er, addS l x 4 = (la, er) := ⟨_, _, rfl⟩
  rw [hadd] at hmath
  replace hmath : RowKit.Hid (er = 0 → (hitL l a || hitL [x] a) = true → hitL la a = true) := hmath
  replace hadd := Lib.hid hadd
  have hcl := sNote_any _ (hls.below q) hsm (by omega) (hx.below q) hsx
  rw [hadd.out] at hcl
  go_wp2_with fail
  refine hcl.mono ?_
  rintro e wq ⟨aA, kA, cA, rfl, hO, hb⟩
  obtain rfl : kA = la.length := hO.len
  have rA : RdL Elt.sp (fun _ => True) _ (.slice aA la.length cA) la := hO.rdL.weak fun _ _ => trivial
  clear hO cx0 cx1 cx2 cx3 d0 d1 g0 g1
  clear hcl
  replace Bx := Bx.below hb Bx.lt
  replace q := q.trans (hb.mono q.size)
  clear hb
  go_upto_region 5 with (fail)
  go_cut [53] from 35 to 52 (fun v wr => v = .bool false ∧ BoxN wr w.heap.size 25 [.int .i64 x.table, .slice a1 x.lo.length a2, .slice a3 x.hi.length a4, .bool x.isOpen] ∧ Below w.heap.size w wr)
  case first =>
    obtain ⟨t1, et1⟩ : ∃ t, t = hitL l a := ⟨_, rfl⟩
    obtain ⟨t2, et2⟩ : ∃ t, t = hitL [x] a := ⟨_, rfl⟩
    rw [← et1, ← et2] at hmath
    replace et1 := Lib.hid et1
    replace et2 := Lib.hid et2
    rcases Nat.eq_zero_or_pos er with hz | hz
    · have hm := Lib.hid (hmath.out hz)
      have e1 : ((er : Int) == 0) = true := by rw [hz]; rfl
      have e2 : decide ((er : Int) = 0) = true := by rw [hz]; rfl
      clear hz hmath
      have hcl := sHit_any _ (hls.below q) (ha.below q)
      rw [← et1.out] at hcl
      go_wp2_with fail
      refine hcl.mono ?_
      rintro e wq ⟨rfl, hb⟩
      clear hcl
      replace Bx := Bx.below hb Bx.lt
      replace rA := rA.below hb
      replace q := q.trans (hb.mono q.size)
      clear hb
      cases t1 with
      | true =>
        have hcl := sHit_any _ rA (ha.below q)
        rw [hm.out rfl] at hcl
        go_wp2_with fail
        refine hcl.mono ?_
        rintro e wq ⟨rfl, hb⟩
        clear hcl
        replace Bx := Bx.below hb Bx.lt
        replace rA := rA.below hb
        replace q := q.trans (hb.mono q.size)
        clear hb
        go_wp2_with fail
        go_meet
        exact ⟨rfl, Bx, q⟩
      | false =>
        have cx0 := Bx.cell (i := 0) rfl
        have cx1 := Bx.cell (i := 1) rfl
        have cx2 := Bx.cell (i := 2) rfl
        have cx3 := Bx.cell (i := 3) rfl
        go_wp2_with (first | (refine wpList_buildOne spP rfl rfl rfl (us := [.int .i64 x.table, .slice a1 x.lo.length a2, .slice a3 x.hi.length a4, .bool x.isOpen]) rfl rfl (by decide) (by decide) ?_; intro w5 hb5 hrow) | fail)
        clear cx0 cx1 cx2 cx3
        replace Bx := Bx.below hb5 Bx.lt
        replace rA := rA.below hb5
        replace q := q.trans (hb5.mono q.size)
        have rX : RdL Elt.sp (fun _ => True) w5 (.slice (some ⟨wq.heap.size, 0, none⟩) 1 1) [x] := RdL.made (E := Elt.sp) (rdSp_R (RdSp.weak (hx.below q) fun _ _ => trivial)) hrow trivial
        clear hrow hb5
        have hcl := sHit_any _ rX (ha.below q)
        rw [← et2.out] at hcl
        refine hcl.mono ?_
        rintro e wq2 ⟨rfl, hb⟩
        clear hcl rX
        replace Bx := Bx.below hb Bx.lt
        replace rA := rA.below hb
        replace q := q.trans (hb.mono q.size)
        clear hb
        cases t2 with
        | true =>
          have hcl := sHit_any _ rA (ha.below q)
          rw [hm.out rfl] at hcl
          go_wp2_with fail
          refine hcl.mono ?_
          rintro e wq ⟨rfl, hb⟩
          clear hcl
          replace Bx := Bx.below hb Bx.lt
          replace rA := rA.below hb
          replace q := q.trans (hb.mono q.size)
          clear hb
          go_wp2_with fail
          go_meet
          exact ⟨rfl, Bx, q⟩
        | false =>
          go_wp2_with fail
          go_meet
          exact ⟨rfl, Bx, q⟩
    · have e1 : ((er : Int) == 0) = false := beq_eq_false_iff_ne.2 (by omega)
      have e2 : decide ((er : Int) = 0) = false := decide_eq_false (by omega)
      clear hz hmath
      go_wp2_with fail
      go_meet
      exact ⟨rfl, Bx, q⟩
  case rest =>
  clear rA hmath hadd Bx q hsm hsx hln
  obtain ⟨rfl, Bx, q⟩ := hcut
  have hmm : a.length ≤ 9223372036854775807 := by omega
  go_upto_region 8 with (fail)
  go_loopw [10] (fun iv wr => ∃ (i : Nat), iv = .int .i64 i ∧ i ≤ a.length ∧ Below w.heap.size w wr) (fun i _ => a.length - (intOf i).toNat)
  case atStart => exact ⟨0, rfl, Nat.zero_le _, q⟩
  case round =>
    clear q Bx
    obtain ⟨i, rfl, hil, q⟩ := hrel
    rcases Nat.lt_or_ge i a.length with hlt | hge
    · have dk : decide ((i : Int) < (a.length : Int)) = true := decide_eq_true (by omega)
      obtain ⟨b1, o1, A1, A2, A3, A4, rfl, _, c0, c1, _, _, hk, _, hw64⟩ := (ha.below q).wr i hlt
      have hpt := Lib.hid (hit_point (List.getElem_mem hlt))
      have hkl := (hak.out _ (List.getElem_mem hlt)).1
      obtain ⟨y, ey⟩ : ∃ y, y = a[i] := ⟨_, rfl⟩
      rw [← ey] at c0 c1 hk hw64 hpt hkl
      clear ey
      have haw := ha.below q
      have eP : ∀ args w, (callFunc 20 args).run Try.prog w = .ok (.enter 20 args) w := enters_of Try.func20 (by kernel_rfl) rfl
      have eH : ∀ args w, (callFunc 16 args).run Try.prog w = .ok (.enter 16 args) w := enters_of Try.func16 (by kernel_rfl) rfl
      go_upto_region 10 with (fail)
      refine wp_region_gsg (by kernel_rfl) (by kernel_rfl) [sgEq (.slice (some ⟨b1, o1, none⟩) a.length r3), sgEq (.int .i64 (i : Int)), sgEq (.pointer (some ⟨b1, o1 + i * 4, none⟩)), sgEq (.pointer (some ⟨b1, o1 + i * 4, none⟩)), sgEq (.int .i64 y.table), sgEq (.slice (some ⟨b1, o1, none⟩) a.length r3), sgEq (.int .i64 (i : Int)), sgEq (.pointer (some ⟨b1, o1 + i * 4, none⟩)), sgEq (.pointer (some ⟨b1, o1 + i * 4 + 1, none⟩)), sgEq (.slice A1 y.key.length A2), sgVSp (pointS y.table y.key), sgVSps [pointS y.table y.key], sgEq (.slice (some ⟨b1, o1, none⟩) a.length r3), sgEq (.bool true), sgEq (.bool false)]
        ⟨?o0, ?o1, ?o2, ?o3, ?o4, ?o5, ?o6, ?o7, ?o8, ?o9, ?o10, ?o11, ?o12, ?o13, ?o14, trivial⟩ ?fin
      case o0 =>
        refine GdOp.plain rfl (fun A vs w' hF hT hb hd => ?_)
        have e1 : A.eval (.tmp 2) = .slice (some ⟨b1, o1, none⟩) a.length r3 := hF 2 rfl
        exact BigFrame.wp_move _ rfl ⟨_, rfl, e1, Below.refl _ _⟩
      case o1 =>
        refine GdOp.plain rfl (fun A vs w' hF hT hb hd => ?_)
        have e1 : A.eval (.tmp 10) = .int .i64 (i : Int) := hF 10 rfl
        exact BigFrame.wp_move _ rfl ⟨_, rfl, e1, Below.refl _ _⟩
      case o2 =>
        refine GdOp.plain rfl (fun A vs w' hF hT hb hd => ?_)
        have e1 : A.eval (.tmp 60) = .slice (some ⟨b1, o1, none⟩) a.length r3 := (hT 60 0 (by simp) rfl).trans (hd ⟨0, .data⟩ (by simp) rfl)
        have e2 : A.eval (.tmp 61) = .int .i64 (i : Int) := (hT 61 1 (by simp) rfl).trans (hd ⟨1, .data⟩ (by simp) rfl)
        exact wp_ixN (e := 43) rfl (by kernel_rfl) (by kernel_rfl) (e1) (e2) rfl (by omega) ⟨_, rfl, rfl, Below.refl _ _⟩
      case o3 =>
        refine GdOp.plain rfl (fun A vs w' hF hT hb hd => ?_)
        have e1 : A.eval (.tmp 62) = .pointer (some ⟨b1, o1 + i * 4, none⟩) := (hT 62 2 (by simp) rfl).trans (hd ⟨2, .data⟩ (by simp) rfl)
        exact wp_fieldN wrS rfl (e1) (by omega) ⟨_, rfl, rfl, Below.refl _ _⟩
      case o4 =>
        refine GdOp.plain rfl (fun A vs w' hF hT hb hd => ?_)
        have e1 : A.eval (.tmp 63) = .pointer (some ⟨b1, o1 + i * 4, none⟩) := (hT 63 3 (by simp) rfl).trans (hd ⟨3, .data⟩ (by simp) rfl)
        exact wp_ld_int (k := .i64) rfl e1 (by kernel_rfl) (((hb.cell (p := ⟨_, _, none⟩) (cell_lt c0)).trans c0)) ⟨_, rfl, rfl, Below.refl _ _⟩
      case o5 =>
        refine GdOp.plain rfl (fun A vs w' hF hT hb hd => ?_)
        have e1 : A.eval (.tmp 2) = .slice (some ⟨b1, o1, none⟩) a.length r3 := hF 2 rfl
        exact BigFrame.wp_move _ rfl ⟨_, rfl, e1, Below.refl _ _⟩
      case o6 =>
        refine GdOp.plain rfl (fun A vs w' hF hT hb hd => ?_)
        have e1 : A.eval (.tmp 10) = .int .i64 (i : Int) := hF 10 rfl
        exact BigFrame.wp_move _ rfl ⟨_, rfl, e1, Below.refl _ _⟩
      case o7 =>
        refine GdOp.plain rfl (fun A vs w' hF hT hb hd => ?_)
        have e1 : A.eval (.tmp 65) = .slice (some ⟨b1, o1, none⟩) a.length r3 := (hT 65 5 (by simp) rfl).trans (hd ⟨5, .data⟩ (by simp) rfl)
        have e2 : A.eval (.tmp 66) = .int .i64 (i : Int) := (hT 66 6 (by simp) rfl).trans (hd ⟨6, .data⟩ (by simp) rfl)
        exact wp_ixN (e := 43) rfl (by kernel_rfl) (by kernel_rfl) (e1) (e2) rfl (by omega) ⟨_, rfl, rfl, Below.refl _ _⟩
      case o8 =>
        refine GdOp.plain rfl (fun A vs w' hF hT hb hd => ?_)
        have e1 : A.eval (.tmp 67) = .pointer (some ⟨b1, o1 + i * 4, none⟩) := (hT 67 7 (by simp) rfl).trans (hd ⟨7, .data⟩ (by simp) rfl)
        exact wp_fieldN wrS rfl (e1) (by omega) ⟨_, rfl, rfl, Below.refl _ _⟩
      case o9 =>
        refine GdOp.plain rfl (fun A vs w' hF hT hb hd => ?_)
        have e1 : A.eval (.tmp 68) = .pointer (some ⟨b1, o1 + i * 4 + 1, none⟩) := (hT 68 8 (by simp) rfl).trans (hd ⟨8, .data⟩ (by simp) rfl)
        exact wp_ld_slice (e := 5) rfl e1 (by kernel_rfl) (((hb.cell (p := ⟨_, _, none⟩) (cell_lt c1)).trans c1)) ⟨_, rfl, rfl, Below.refl _ _⟩
      case o10 =>
        refine GdOp.plain rfl (fun A vs w' hF hT hb hd => ?_)
        have e1 : A.eval (.tmp 64) = .int .i64 y.table := (hT 64 4 (by simp) rfl).trans (hd ⟨4, .data⟩ (by simp) rfl)
        have e2 : A.eval (.tmp 69) = .slice A1 y.key.length A2 := (hT 69 9 (by simp) rfl).trans (hd ⟨9, .data⟩ (by simp) rfl)
        refine wp_callFn rfl eP (args := #[.int .i64 y.table, .slice A1 y.key.length A2]) (by simp only [List.map_toArray, List.map_cons, List.map_nil, e1, e2]) ((sPoint_any w' (hk.below hb) hw64 (by omega)).mono ?_)
        rintro e w2 ⟨v, rfl, hv, hb2⟩
        exact ⟨_, rfl, _, rfl, hv.weak fun _ _ => trivial, hb2⟩
      case o11 =>
        refine GdOp.plain rfl (fun A vs w' hF hT hb hd => ?_)
        have x1 : A.eval (.tmp 70) = vs 10 := hT 70 10 (by simp) rfl
        have y1 := hd ⟨10, .data⟩ (by simp) rfl
        obtain ⟨us, ev, hR, hus⟩ := RdSp.toR y1
        have hb1 : Below w'.heap.size w' (w'.alloc (.cells us.toArray 25)) := (Below.refl _ _).alloc (Nat.le_refl _) _
        exact wp_buildOne spP rfl (x1.trans ev) rfl hus (by decide) (by decide) ⟨_, rfl, ⟨_, _, rfl, RdL.made (E := Elt.sp) (t := 25) (Elt.below hR hb1) (by simp only [World.alloc, Array.getElem?_push_size]) trivial⟩, hb1⟩
      case o12 =>
        refine GdOp.plain rfl (fun A vs w' hF hT hb hd => ?_)
        have e1 : A.eval (.tmp 2) = .slice (some ⟨b1, o1, none⟩) a.length r3 := hF 2 rfl
        exact BigFrame.wp_move _ rfl ⟨_, rfl, e1, Below.refl _ _⟩
      case o13 =>
        refine GdOp.plain rfl (fun A vs w' hF hT hb hd => ?_)
        have e2 : A.eval (.tmp 72) = .slice (some ⟨b1, o1, none⟩) a.length r3 := (hT 72 12 (by simp) rfl).trans (hd ⟨12, .data⟩ (by simp) rfl)
        obtain ⟨z1, z2, ez, hz⟩ := hd ⟨11, .data⟩ (by simp) rfl
        have x1 : A.eval (.tmp 71) = .slice z1 1 z2 := (hT 71 11 (by simp) rfl).trans ez
        have hcl := sHit_any w' hz (haw.below hb)
        rw [hpt.out] at hcl
        refine wp_callFn rfl eH (args := #[.slice z1 1 z2, .slice (some ⟨b1, o1, none⟩) a.length r3]) (by simp only [List.map_toArray, List.map_cons, List.map_nil, x1, e2]) (hcl.mono ?_)
        rintro e w2 ⟨rfl, hb2⟩
        exact ⟨_, rfl, _, rfl, rfl, hb2⟩
      case o14 =>
        refine GdOp.plain rfl (fun A vs w' hF hT hb hd => ?_)
        have e1 : A.eval (.tmp 73) = .bool true := (hT 73 13 (by simp) rfl).trans (hd ⟨13, .data⟩ (by simp) rfl)
        exact wp_notB rfl e1 ⟨_, rfl, rfl, Below.refl _ _⟩
      case fin =>
      intro vs9 W9 hb9 hG9
      have e0 : vs9 0 = .slice (some ⟨b1, o1, none⟩) a.length r3 := hG9 0 (by decide)
      have e1 : vs9 1 = .int .i64 (i : Int) := hG9 1 (by decide)
      have e2 : vs9 2 = .pointer (some ⟨b1, o1 + i * 4, none⟩) := hG9 2 (by decide)
      have e3 : vs9 3 = .pointer (some ⟨b1, o1 + i * 4, none⟩) := hG9 3 (by decide)
      have e4 : vs9 4 = .int .i64 y.table := hG9 4 (by decide)
      have e5 : vs9 5 = .slice (some ⟨b1, o1, none⟩) a.length r3 := hG9 5 (by decide)
      have e6 : vs9 6 = .int .i64 (i : Int) := hG9 6 (by decide)
      have e7 : vs9 7 = .pointer (some ⟨b1, o1 + i * 4, none⟩) := hG9 7 (by decide)
      have e8 : vs9 8 = .pointer (some ⟨b1, o1 + i * 4 + 1, none⟩) := hG9 8 (by decide)
      have e9 : vs9 9 = .slice A1 y.key.length A2 := hG9 9 (by decide)
      have e12 : vs9 12 = .slice (some ⟨b1, o1, none⟩) a.length r3 := hG9 12 (by decide)
      have e13 : vs9 13 = .bool true := hG9 13 (by decide)
      have e14 : vs9 14 = .bool false := hG9 14 (by decide)
      simp only [putAll, e0, e1, e2, e3, e4, e5, e6, e7, e8, e9, e12, e13, e14]
      clear hG9 e0 e1 e2 e3 e4 e5 e6 e7 e8 e9 e12 e13 e14
      replace q := q.trans (hb9.mono q.size)
      clear hb9 haw c0 c1 hk hpt
      go_simp
      go_wp2_with fail
      go_roundw
      case rel => exact ⟨i + 1, by go_num, by omega, q⟩
      case measure => simp [intOf]; omega
    · obtain rfl : i = a.length := by omega
      have dk : decide ((a.length : Int) < (a.length : Int)) = false := decide_eq_false (by omega)
      rcases Nat.eq_zero_or_pos a.length with hz | hz
      · have db : decide ((0 : Int) < (a.length : Int)) = false := decide_eq_false (by omega)
        have db2 : (0 < a.length) = False := eq_false (by omega)
        clear hz
        have hcl := sSame_any _ (ha.below q) (ha.below q)
        rw [same_self] at hcl
        rw [db] at hcl
        go_wp2_with fail
        refine hcl.mono ?_
        rintro e wq ⟨rfl, hb⟩
        clear hcl
        replace q := q.trans (hb.mono q.size)
        clear hb
        have hcl := sHit_any _ (RdL.nil Elt.sp (fun _ => True) _) (ha.below q)
        rw [hit_nil] at hcl
        go_wp2_with fail
        refine hcl.mono ?_
        rintro e wq ⟨rfl, hb⟩
        clear hcl
        replace q := q.trans (hb.mono q.size)
        clear hb
        have hcl := sHit_any _ (hls.below q) (RdL.nil Elt.wr (fun _ => True) _)
        rw [hit_none] at hcl
        go_wp2_with fail
        refine hcl.mono ?_
        rintro e wq ⟨rfl, hb⟩
        clear hcl
        replace q := q.trans (hb.mono q.size)
        clear hb
        go_wp2_with fail
        go_ret
        exact ⟨rfl, q⟩
      · have db : decide ((0 : Int) < (a.length : Int)) = true := decide_eq_true (by omega)
        have db2 : (0 < a.length) = True := eq_true hz
        clear hz
        have hcl := sSame_any _ (ha.below q) (ha.below q)
        rw [same_self] at hcl
        rw [db] at hcl
        go_wp2_with fail
        refine hcl.mono ?_
        rintro e wq ⟨rfl, hb⟩
        clear hcl
        replace q := q.trans (hb.mono q.size)
        clear hb
        have hcl := sHit_any _ (RdL.nil Elt.sp (fun _ => True) _) (ha.below q)
        rw [hit_nil] at hcl
        go_wp2_with fail
        refine hcl.mono ?_
        rintro e wq ⟨rfl, hb⟩
        clear hcl
        replace q := q.trans (hb.mono q.size)
        clear hb
        have hcl := sHit_any _ (hls.below q) (RdL.nil Elt.wr (fun _ => True) _)
        rw [hit_none] at hcl
        go_wp2_with fail
        refine hcl.mono ?_
        rintro e wq ⟨rfl, hb⟩
        clear hcl
        replace q := q.trans (hb.mono q.size)
        clear hb
        go_wp2_with fail
        go_ret
        exact ⟨rfl, q⟩
end Go.Proofs.Ytmcleffpjfeegaa
namespace Go.Proofs.Ytmcleffpjfeegaa
open Go.RowKit Go.Shelf
theorem sub_eq {α : Type} {l m : List α} {k i : Nat} (hk : k < l.length) (hi : i < m.length) (h : (l.drop k).Sublist (m.drop i)) (he : l[k] = m[i]) : (l.drop (k + 1)).Sublist (m.drop (i + 1)) := by
  rw [List.drop_eq_getElem_cons hk, List.drop_eq_getElem_cons hi, he] at h
  exact List.cons_sublist_cons.1 h
theorem sub_ne0 {α : Type} {x y : α} {l m : List α} (h : (x :: l).Sublist (y :: m)) (he : x ≠ y) : (x :: l).Sublist m := by
  cases h with
  | cons _ h => exact h
  | cons_cons _ h => exact absurd rfl he
theorem sub_ne {α : Type} {l m : List α} {k i : Nat} (hk : k < l.length) (hi : i < m.length) (h : (l.drop k).Sublist (m.drop i)) (he : l[k] ≠ m[i]) : (l.drop k).Sublist (m.drop (i + 1)) := by
  rw [List.drop_eq_getElem_cons hi] at h
  rw [List.drop_eq_getElem_cons hk] at h ⊢
  exact sub_ne0 h he
set_option maxRecDepth 100000 in
set_option maxHeartbeats 32000000 in
theorem ReadsKeep_w (w : World) {p1 v1 : Option Addr} {p2 p3 v2 v3 : Nat} {P : List Ps} {V : List Lv} {s : Int} (h0 : RdL Elt.ps (· < w.heap.size) w (.slice p1 p2 p3) P) (h1 : RdL Elt.lv (· < w.heap.size) w (.slice v1 v2 v3) V) (h2 : (Lit.int .i64 s).wf = true) :
    Calls Try.prog 5 #[.slice p1 p2 p3, .slice v1 v2 v3, .int .i64 s] w fun e w' => e = .returned (.bool true) ∧ Below w.heap.size w w' := by
  have hs64 := w64w h2
  have _ := h2
  have hp := h0
  obtain ⟨rfl, _, lm⟩ := h0.len
  have hv := h1
  obtain ⟨rfl, _, _⟩ := h1.len
  clear lm h0 h1
  have q := Below.refl w.heap.size w
  go_enter Try.func5, Try.ntmps5
  go_upto_region 1 with (fail)
  go_wp2_with fail
  refine (awake13_any w).mono ?_
  rintro e w1 ⟨rfl, hb⟩
  replace q := q.trans (hb.mono q.size)
  clear hb
  have hcl := rFewP_any _ (hp.below q) (hv.below q)
  go_wp2_with fail
  refine hcl.mono ?_
  rintro e wq ⟨rfl, hb⟩
  clear hcl
  replace q := q.trans (hb.mono q.size)
  clear hb
  by_cases hf : fewPs P V
  case neg =>
    rw [decide_eq_false hf]
    go_wp2_with fail
    go_ret
    exact ⟨rfl, q⟩
  rw [decide_eq_true hf]
  have hps := few_sm hf
  have hpl : P.length ≤ 30 := hf.1
  have hvl : V.length ≤ 30 := hf.2.1
  clear hf
  obtain ⟨v, ev⟩ : ∃ v : Lv, v = ⟨s, []⟩ := ⟨_, rfl⟩
  obtain ⟨LA, eA⟩ : ∃ LA, LA = keepP P V := ⟨_, rfl⟩
  obtain ⟨LB, eB⟩ : ∃ LB, LB = keepP P (V ++ [v]) := ⟨_, rfl⟩
  obtain ⟨LO, eO⟩ : ∃ LO, LO = keepP P [v] := ⟨_, rfl⟩
  have hsub := Lib.hid (show (LA.drop 0).Sublist (P.drop 0) by rw [eA]; exact List.filter_sublist)
  have hAB : LA.length ≤ LB.length := by rw [eA, eB]; exact keepP_mono P (fun x hx => List.mem_append_left _ hx)
  have hOB : LO.length ≤ LB.length := by rw [eO, eB]; exact keepP_mono P (fun x hx => List.mem_append_right _ hx)
  have hAl : LA.length ≤ 30 := by rw [eA]; exact Nat.le_trans (keepP_len _ _) hpl
  have hBl : LB.length ≤ 30 := by rw [eB]; exact Nat.le_trans (keepP_len _ _) hpl
  have hOs := Lib.hid (show ∀ p ∈ LO, s < p.stamp from fun p hp => by rw [eO] at hp; have := (List.mem_filter.1 hp).2; unfold metP at this; rw [ev] at this; simpa using this)
  have htw := Lib.hid (show keepP LA V = LA by rw [eA]; exact keepP_twice P V)
  have hsA : smPs LA := by rw [eA]; exact sm_keep hps V
  replace eA := Lib.hid eA
  replace eB := Lib.hid eB
  replace eO := Lib.hid eO
  replace ev := Lib.hid ev
  have hcl := sKeep_any _ (hp.below q) (hv.below q) hps
  rw [← eA.out] at hcl
  go_wp2_with fail
  refine hcl.mono ?_
  rintro e wq ⟨aA, cA, rfl, hO, hb⟩
  have rA : RdL Elt.ps (fun _ => True) _ (.slice aA LA.length cA) LA := hO.rdL.weak fun _ _ => trivial
  clear hO
  clear hcl
  replace q := q.trans (hb.mono q.size)
  clear hb
  go_upto_region 5 with (fail)
  go_wp2_with (first
  | (refine wpList_buildZero (E := Elt.lv) lvP rfl rfl ?_; intro wz hbz hOz)
  | (refine wpList_append_zeroL (E := Elt.lv) lvP rfl rfl rfl (hOz.to (Nat.le_refl _) (Nat.zero_le _)) rfl (((hv.below q).below hbz).fit.weak fun k hk => hk.2) (fun k hk => ⟨Nat.zero_le _, hk⟩) hbz.size ?_ (by omega); intro z1 zn zc wy hOy hby; obtain rfl := hOy.len)
  | (refine wpList_buildOne lvP rfl rfl rfl (us := [.int .i64 s, .slice none 0 0]) rfl rfl (by decide) (by decide) ?_; intro wx hbx hrow)
  | (refine wpList_apvRow (E := Elt.lv) (e := v) (us := [.int .i64 s, .slice none 0 0]) (n := V.length + 1) (S := fun _ => False) lvP rfl rfl rfl rfl (hOy.below hbx) hrow ⟨_, by rw [ev.out], by rw [ev.out]; exact RdL.nil _ _ _, by rw [ev.out]; exact hs64⟩ (fun k hk => hk.elim) (by have := hbz.size; have := hby.size; have := hbx.size; omega) (by omega) rfl ?_; intro ad9 c9 w9 hO9 hg9 ho9)
  | fail)
  have hxz := hOy.block_lt
  have b1 : Below wq.heap.size wq wx := (hbz.trans (hby.mono hbz.size)).trans (hbx.mono (Nat.le_trans hbz.size hby.size))
  have b2 : Below wq.heap.size wq w9 := b1.grown hg9 b1.size fun k hk => (hxz k hk).1
  have rB1 : RdL Elt.lv (fun _ => True) w9 (.slice ad9 (V ++ [v]).length c9) (V ++ [v]) := by
    rw [List.length_append]
    exact hO9.rdL.weak fun _ _ => trivial
  clear hbz hOz hby hOy hbx hrow hg9 hO9 ho9 hxz b1
  replace rA := rA.below b2
  replace q := q.trans (b2.mono q.size)
  clear b2
  have hcl := sKeep_any _ (hp.below q) rB1 hps
  rw [← eB.out, List.length_append] at hcl
  refine hcl.mono ?_
  rintro e wr ⟨aB, cB, rfl, hO, hb⟩
  have rB : RdL Elt.ps (fun _ => True) _ (.slice aB LB.length cB) LB := hO.rdL.weak fun _ _ => trivial
  clear hO
  clear hcl rB1
  replace rA := rA.below hb
  replace q := q.trans (hb.mono q.size)
  clear hb
  have hcl := sKeep_any _ rA (hv.below q) hsA
  rw [htw.out] at hcl
  go_wp2_with fail
  refine hcl.mono ?_
  rintro e wq ⟨aC, cC, rfl, hO, hb⟩
  have rC : RdL Elt.ps (fun _ => True) _ (.slice aC LA.length cC) LA := hO.rdL.weak fun _ _ => trivial
  clear hO
  clear hcl
  replace rA := rA.below hb
  replace rB := rB.below hb
  replace q := q.trans (hb.mono q.size)
  clear hb
  have hcl := rAllP_any _ rC rA
  rw [decide_eq_true (rfl : LA = LA)] at hcl
  go_wp2_with fail
  refine hcl.mono ?_
  rintro e wq ⟨rfl, hb⟩
  clear hcl
  replace rA := rA.below hb
  replace rB := rB.below hb
  replace rC := rC.below hb
  replace q := q.trans (hb.mono q.size)
  clear hb
  clear rC
  go_upto_region 9 with (fail)
  go_loopw [11, 12] (fun kv iv wr => ∃ (k i : Nat), kv = .int .i64 k ∧ iv = .int .i64 i ∧ k ≤ LA.length ∧ i ≤ P.length ∧ RowKit.Hid ((LA.drop k).Sublist (P.drop i)) ∧ RdL Elt.ps (fun _ => True) wr (.slice aA LA.length cA) LA ∧ RdL Elt.ps (fun _ => True) wr (.slice aB LB.length cB) LB ∧ Below w.heap.size w wr) (fun _ i _ => P.length - (intOf i).toNat)
  case atStart => exact ⟨0, 0, rfl, rfl, Nat.zero_le _, Nat.zero_le _, hsub, rA, rB, q⟩
  case round =>
    clear q rA rB hsub
    obtain ⟨k, i, rfl, rfl, hka, hip, hsub, rA, rB, q⟩ := hrel
    rcases Nat.lt_or_ge i P.length with hlt | hge
    · have di : decide ((i : Int) < (P.length : Int)) = true := decide_eq_true (by omega)
      rcases Nat.lt_or_ge k LA.length with hlk | hgk
      · have dk : decide ((k : Int) < (LA.length : Int)) = true := decide_eq_true (by omega)
        obtain ⟨g1, o1, A1, A2, A3, A4, rfl, _, hhc, hk1, hk2, hw64⟩ := rA.ps k hlk
        obtain ⟨g2, o2, B1, B2, B3, B4, rfl, _, hhd, hk3, hk4, hw65⟩ := (hp.below q).ps i hlt
        have hx : RdPs (fun _ => True) wr (.agg #[.int .i64 LA[k].snap, .int .i64 LA[k].stamp, .bool LA[k].held, .slice A1 LA[k].reads.length A2, .slice A3 LA[k].writes.length A4, .bool LA[k].out]) LA[k] := ⟨_, _, _, _, rfl, hk1, hk2, hw64⟩
        have hy : RdPs (· < w.heap.size) wr (.agg #[.int .i64 P[i].snap, .int .i64 P[i].stamp, .bool P[i].held, .slice B1 P[i].reads.length B2, .slice B3 P[i].writes.length B4, .bool P[i].out]) P[i] := ⟨_, _, _, _, rfl, hk3, hk4, hw65⟩
        have hse := Lib.hid (fun he : LA[k] = P[i] => sub_eq hlk hlt hsub.out he)
        have hsn := Lib.hid (fun he : LA[k] ≠ P[i] => sub_ne hlk hlt hsub.out he)
        replace hhc := cells6 hhc
        replace hhd := cells6 hhd
        obtain ⟨x, ex⟩ : ∃ x, x = LA[k] := ⟨_, rfl⟩
        obtain ⟨y, ey⟩ : ∃ y, y = P[i] := ⟨_, rfl⟩
        rw [← ex] at hhc hx hse hsn
        rw [← ey] at hhd hy hse hsn
        clear hk1 hk2 hk3 hk4 ex ey hw64 hw65 hsub
        have eO : ∀ args w, (callFunc 21 args).run Try.prog w = .ok (.enter 21 args) w := enters_of Try.func21 (by kernel_rfl) rfl
        go_upto_region 12 with (fail)
        refine wp_region_gsg (by kernel_rfl) (by kernel_rfl) [sgEq (.slice (some ⟨g1, o1, none⟩) LA.length cA), sgEq (.int .i64 (k : Int)), sgEq (.pointer (some ⟨g1, o1 + k * 6, none⟩)), sgEq (.agg #[.int .i64 x.snap, .int .i64 x.stamp, .bool x.held, .slice A1 x.reads.length A2, .slice A3 x.writes.length A4, .bool x.out]), sgEq (.slice (some ⟨g2, o2, none⟩) P.length p3), sgEq (.int .i64 (i : Int)), sgEq (.pointer (some ⟨g2, o2 + i * 6, none⟩)), sgEq (.agg #[.int .i64 y.snap, .int .i64 y.stamp, .bool y.held, .slice B1 y.reads.length B2, .slice B3 y.writes.length B4, .bool y.out]), sgEq (.bool (decide (x = y))), sgEq (.bool (decide (x = y)))]
          ⟨?o0, ?o1, ?o2, ?o3, ?o4, ?o5, ?o6, ?o7, ?o8, ?o9, trivial⟩ ?fin
        case o0 =>
          refine GdOp.plain rfl (fun A vs w' hF hT hb hd => ?_)
          have e1 : A.eval (.tmp 8) = .slice (some ⟨g1, o1, none⟩) LA.length cA := hF 8 rfl
          exact BigFrame.wp_move _ rfl ⟨_, rfl, e1, Below.refl _ _⟩
        case o1 =>
          refine GdOp.plain rfl (fun A vs w' hF hT hb hd => ?_)
          have e1 : A.eval (.tmp 11) = .int .i64 (k : Int) := hF 11 rfl
          exact BigFrame.wp_move _ rfl ⟨_, rfl, e1, Below.refl _ _⟩
        case o2 =>
          refine GdOp.plain rfl (fun A vs w' hF hT hb hd => ?_)
          have e1 : A.eval (.tmp 49) = .slice (some ⟨g1, o1, none⟩) LA.length cA := (hT 49 0 (by simp) rfl).trans (hd ⟨0, .data⟩ (by simp) rfl)
          have e2 : A.eval (.tmp 50) = .int .i64 (k : Int) := (hT 50 1 (by simp) rfl).trans (hd ⟨1, .data⟩ (by simp) rfl)
          exact wp_ixN (e := 49) rfl (by kernel_rfl) (by kernel_rfl) (e1) (e2) rfl (by omega) ⟨_, rfl, rfl, Below.refl _ _⟩
        case o3 =>
          refine GdOp.plain rfl (fun A vs w' hF hT hb hd => ?_)
          have e1 : A.eval (.tmp 51) = .pointer (some ⟨g1, o1 + k * 6, none⟩) := (hT 51 2 (by simp) rfl).trans (hd ⟨2, .data⟩ (by simp) rfl)
          exact wp_loadN (us := [.int .i64 x.snap, .int .i64 x.stamp, .bool x.held, .slice A1 x.reads.length A2, .slice A3 x.writes.length A4, .bool x.out]) psS rfl e1 (fun j u hj => (hb.cell (p := ⟨_, _, none⟩) (cell_lt (hhc j u hj))).trans (hhc j u hj)) ⟨_, rfl, rfl, Below.refl _ _⟩
        case o4 =>
          refine GdOp.plain rfl (fun A vs w' hF hT hb hd => ?_)
          have e1 : A.eval (.tmp 0) = .slice (some ⟨g2, o2, none⟩) P.length p3 := hF 0 rfl
          exact BigFrame.wp_move _ rfl ⟨_, rfl, e1, Below.refl _ _⟩
        case o5 =>
          refine GdOp.plain rfl (fun A vs w' hF hT hb hd => ?_)
          have e1 : A.eval (.tmp 12) = .int .i64 (i : Int) := hF 12 rfl
          exact BigFrame.wp_move _ rfl ⟨_, rfl, e1, Below.refl _ _⟩
        case o6 =>
          refine GdOp.plain rfl (fun A vs w' hF hT hb hd => ?_)
          have e1 : A.eval (.tmp 53) = .slice (some ⟨g2, o2, none⟩) P.length p3 := (hT 53 4 (by simp) rfl).trans (hd ⟨4, .data⟩ (by simp) rfl)
          have e2 : A.eval (.tmp 54) = .int .i64 (i : Int) := (hT 54 5 (by simp) rfl).trans (hd ⟨5, .data⟩ (by simp) rfl)
          exact wp_ixN (e := 49) rfl (by kernel_rfl) (by kernel_rfl) (e1) (e2) rfl (by omega) ⟨_, rfl, rfl, Below.refl _ _⟩
        case o7 =>
          refine GdOp.plain rfl (fun A vs w' hF hT hb hd => ?_)
          have e1 : A.eval (.tmp 55) = .pointer (some ⟨g2, o2 + i * 6, none⟩) := (hT 55 6 (by simp) rfl).trans (hd ⟨6, .data⟩ (by simp) rfl)
          exact wp_loadN (us := [.int .i64 y.snap, .int .i64 y.stamp, .bool y.held, .slice B1 y.reads.length B2, .slice B3 y.writes.length B4, .bool y.out]) psS rfl e1 (fun j u hj => (hb.cell (p := ⟨_, _, none⟩) (cell_lt (hhd j u hj))).trans (hhd j u hj)) ⟨_, rfl, rfl, Below.refl _ _⟩
        case o8 =>
          refine GdOp.plain rfl (fun A vs w' hF hT hb hd => ?_)
          have e1 : A.eval (.tmp 52) = .agg #[.int .i64 x.snap, .int .i64 x.stamp, .bool x.held, .slice A1 x.reads.length A2, .slice A3 x.writes.length A4, .bool x.out] := (hT 52 3 (by simp) rfl).trans (hd ⟨3, .data⟩ (by simp) rfl)
          have e2 : A.eval (.tmp 56) = .agg #[.int .i64 y.snap, .int .i64 y.stamp, .bool y.held, .slice B1 y.reads.length B2, .slice B3 y.writes.length B4, .bool y.out] := (hT 56 7 (by simp) rfl).trans (hd ⟨7, .data⟩ (by simp) rfl)
          refine wp_callFn rfl eO (args := #[.agg #[.int .i64 x.snap, .int .i64 x.stamp, .bool x.held, .slice A1 x.reads.length A2, .slice A3 x.writes.length A4, .bool x.out], .agg #[.int .i64 y.snap, .int .i64 y.stamp, .bool y.held, .slice B1 y.reads.length B2, .slice B3 y.writes.length B4, .bool y.out]]) (by simp only [List.map_toArray, List.map_cons, List.map_nil, e1, e2]) ((rOneP_any w' (hx.below hb) (hy.below hb)).mono ?_)
          rintro e w2 ⟨rfl, hb2⟩
          exact ⟨_, rfl, _, rfl, rfl, hb2⟩
        case o9 =>
          refine GdOp.plain rfl (fun A vs w' hF hT hb hd => ?_)
          have e1 : A.eval (.tmp 57) = .bool (decide (x = y)) := (hT 57 8 (by simp) rfl).trans (hd ⟨8, .data⟩ (by simp) rfl)
          exact BigFrame.wp_assign _ rfl ⟨_, rfl, e1, Below.refl _ _⟩
        case fin =>
        intro vs9 W9 hb9 hG9
        have e0 : vs9 0 = .slice (some ⟨g1, o1, none⟩) LA.length cA := hG9 0 (by decide)
        have e1 : vs9 1 = .int .i64 (k : Int) := hG9 1 (by decide)
        have e2 : vs9 2 = .pointer (some ⟨g1, o1 + k * 6, none⟩) := hG9 2 (by decide)
        have e3 : vs9 3 = .agg #[.int .i64 x.snap, .int .i64 x.stamp, .bool x.held, .slice A1 x.reads.length A2, .slice A3 x.writes.length A4, .bool x.out] := hG9 3 (by decide)
        have e4 : vs9 4 = .slice (some ⟨g2, o2, none⟩) P.length p3 := hG9 4 (by decide)
        have e5 : vs9 5 = .int .i64 (i : Int) := hG9 5 (by decide)
        have e6 : vs9 6 = .pointer (some ⟨g2, o2 + i * 6, none⟩) := hG9 6 (by decide)
        have e7 : vs9 7 = .agg #[.int .i64 y.snap, .int .i64 y.stamp, .bool y.held, .slice B1 y.reads.length B2, .slice B3 y.writes.length B4, .bool y.out] := hG9 7 (by decide)
        have e8 : vs9 8 = .bool (decide (x = y)) := hG9 8 (by decide)
        have e9 : vs9 9 = .bool (decide (x = y)) := hG9 9 (by decide)
        simp only [putAll, e0, e1, e2, e3, e4, e5, e6, e7, e8, e9]
        clear hG9 e0 e1 e2 e3 e4 e5 e6 e7 e8 e9
        replace rA := rA.below hb9
        replace rB := rB.below hb9
        replace q := q.trans (hb9.mono q.size)
        clear hb9 hx hy hhc hhd
        go_simp
        by_cases he : x = y
        · rw [decide_eq_true he]
          have hs2 := Lib.hid (hse.out he)
          clear he hse hsn
          go_wp2_with fail
          go_roundw
          case rel => exact ⟨k + 1, i + 1, by go_num, by go_num, by omega, by omega, hs2, rA, rB, q⟩
          case measure => simp [intOf]; omega
        · rw [decide_eq_false he]
          have hs2 := Lib.hid (hsn.out he)
          clear he hse hsn
          go_wp2_with fail
          go_roundw
          case rel => exact ⟨k, i + 1, rfl, by go_num, by omega, by omega, hs2, rA, rB, q⟩
          case measure => simp [intOf]; omega
      · obtain rfl : k = LA.length := by omega
        have dk : decide ((LA.length : Int) < (LA.length : Int)) = false := decide_eq_false (by omega)
        have hs2 := Lib.hid (show (LA.drop LA.length).Sublist (P.drop (i + 1)) by rw [List.drop_length]; exact List.nil_sublist _)
        clear hsub
        go_wp2_with fail
        go_roundw
        case rel => exact ⟨LA.length, i + 1, rfl, by go_num, by omega, by omega, hs2, rA, rB, q⟩
        case measure => simp [intOf]; omega
    · obtain rfl : i = P.length := by omega
      have di : decide ((P.length : Int) < (P.length : Int)) = false := decide_eq_false (by omega)
      have hkA : k = LA.length := by have h := hsub.out; rw [List.drop_length] at h; have := List.eq_nil_of_sublist_nil h; rw [List.drop_eq_nil_iff] at this; omega
      subst hkA
      clear hsub
      go_upto_region 15 with (fail)
      clear di
      go_wp2_with (first | (refine wpList_buildOne lvP rfl rfl rfl (us := [.int .i64 s, .slice none 0 0]) rfl rfl (by decide) (by decide) ?_; intro wx hbx hrow) | fail)
      replace rA := rA.below hbx
      replace rB := rB.below hbx
      replace q := q.trans (hbx.mono q.size)
      have rV : RdL Elt.lv (fun _ => True) wx (.slice (some ⟨wr.heap.size, 0, none⟩) 1 1) [v] := RdL.made (E := Elt.lv) ⟨_, by rw [ev.out], by rw [ev.out]; exact RdL.nil _ _ _, by rw [ev.out]; exact hs64⟩ hrow trivial
      clear hrow hbx
      have hcl := sKeep_any _ (hp.below q) rV hps
      rw [← eO.out] at hcl
      refine hcl.mono ?_
      rintro e wo ⟨aO, cO, rfl, hO, hb⟩
      have rO : RdL Elt.ps (fun _ => True) _ (.slice aO LO.length cO) LO := hO.rdL.weak fun _ _ => trivial
      clear hO
      clear hcl rV
      replace rA := rA.below hb
      replace rB := rB.below hb
      replace q := q.trans (hb.mono q.size)
      clear hb
      go_upto_region 17 with (fail)
      have hOl : LO.length ≤ 30 := by omega
      go_loopw [15] (fun iv wr => ∃ (i : Nat), iv = .int .i64 i ∧ i ≤ LO.length ∧ RdL Elt.ps (fun _ => True) wr (.slice aO LO.length cO) LO ∧ Below w.heap.size w wr) (fun i _ => LO.length - (intOf i).toNat)
      case atStart => exact ⟨0, rfl, Nat.zero_le _, rO, q⟩
      case round =>
        clear q rO
        obtain ⟨i, rfl, hio, rO, q⟩ := hrel
        rcases Nat.lt_or_ge i LO.length with hlt | hge
        · have dk : decide ((i : Int) < (LO.length : Int)) = true := decide_eq_true (by omega)
          obtain ⟨g1, o1, A1, A2, A3, A4, rfl, _, ⟨_, c1, _, _, _, _⟩, _, _, _⟩ := rO.ps i hlt
          have hlo := hOs.out _ (List.getElem_mem hlt)
          have dl : decide (LO[i].stamp ≤ s) = false := decide_eq_false (by omega)
          go_wp2_with fail
          go_roundw
          case rel => exact ⟨i + 1, by go_num, by omega, rO, q⟩
          case measure => simp [intOf]; omega
        · obtain rfl : i = LO.length := by omega
          have dk : decide ((LO.length : Int) < (LO.length : Int)) = false := decide_eq_false (by omega)
          have f1 : ((LA.length : Int) == (LA.length : Int)) = true := beq_self_eq_true _
          have f2 : decide ((LA.length : Int) ≤ (LB.length : Int)) = true := decide_eq_true (by omega)
          have f3 : decide ((LO.length : Int) ≤ (LB.length : Int)) = true := decide_eq_true (by omega)
          go_wp2_with fail
          go_ret
          exact ⟨rfl, q⟩
end Go.Proofs.Ytmcleffpjfeegaa
namespace Go.Proofs.Ytmcleffpjfeegaa
open Go.RowKit
section
variable {α : Type} {E : Elt α} {P : Program} {T Te : TypeId} {ops : Array Oper} {rest : List Oper} {o : Oper} {a : Act} {K : Act → World → Prop} {Q : Exit → Act → World → Prop} {w : World}
theorem run_append_RP (hP : LoP P T Te E.size) (w : World) {base lo : Nat} (ty : TypeId) {ad ax : Option Addr} {n c cx nx : Nat} {xs ys : List α} {S : Nat → Prop} (hown : OwnL E Te base lo w (.slice ad n c) xs) (hx : RdL E S w (.slice ax nx cx) ys)
    (hS : ∀ k, S k → lo ≤ k ∧ k < w.heap.size ∧ some k ≠ Value.ownBlock (.slice ad n c)) (hbase : base ≤ w.heap.size) (hlen : xs.length + ys.length ≤ 1073741824) :
    ∃ v' w', (Builtin.append_ #[T, T] ty #[.slice ad n c, .slice ax nx cx]).run P w = .ok v' w' ∧ OwnL E Te base lo w' v' (xs ++ ys) ∧ w.grownBy w' (Value.ownBlock (.slice ad n c)) := by
  obtain ⟨rfl, _, _⟩ := hx.len
  by_cases h0 : ys = []
  · subst h0
    obtain ⟨i, z, hi, hz, hsz, hby, hzs⟩ := hP.all
    have hsrc : Src P i.size T (.slice ax 0 cx) 0 [] w := by
      cases ax with
      | none => exact Src.ofNil w hP.hT cx
      | some p => exact Src.ofSlice w hP.hT p 0 cx [] (by simp) (fun j u h => by simp at h) (fun u h => by cases h)
    have hle : n ≤ c := hown.rdL.len.2.1
    exact ⟨_, w, run_append_nothing w T T ty Te i hP.hT hi ad n c hle _ hsrc, by simpa using hown, ⟨rfl, rfl, rfl, Nat.le_refl _, fun _ _ _ => rfl⟩⟩
  · obtain ⟨b, off, _, rfl, _⟩ := hx.at 0 (List.length_pos_iff.2 h0)
    obtain ⟨ns, hn, hc⟩ := hx.flat
    obtain ⟨v', w', h1, h2, h3, _⟩ := run_append_L hP w ty hown (fun j u hj => by rw [Addr.add_lit]; exact hc j u hj) hn hS hbase hlen
    exact ⟨v', w', h1, h2, h3⟩
theorem wp_appendRP (hP : LoP P T Te E.size) {s x : Operand} (ho : o.op = .call { callee := .builtin .append, args := #[s, x], argTypes := #[T, T] })
    {base lo : Nat} {ad ax : Option Addr} {n c cx nx : Nat} {xs ys : List α} {S : Nat → Prop} (hs : a.eval s = .slice ad n c) (hown : OwnL E Te base lo w (.slice ad n c) xs) (hx : a.eval x = .slice ax nx cx) (hr : RdL E S w (.slice ax nx cx) ys)
    (hS : ∀ k, S k → lo ≤ k ∧ k < w.heap.size ∧ some k ≠ Value.ownBlock (.slice ad n c)) (hbase : base ≤ w.heap.size)
    (h : ∀ ad2 k cap w', OwnL E Te base lo w' (.slice ad2 k cap) (xs ++ ys) → w.grownBy w' (Value.ownBlock (.slice ad n c)) → K (a.put o.dst (.slice ad2 k cap)) w') (hlen : xs.length + ys.length ≤ 1073741824) : o.wp P a w K Q := by
  obtain ⟨v', w', hrun, h2, h3⟩ := run_append_RP hP w o.type hown hr hS hbase hlen
  obtain ⟨ad2, cap, rfl⟩ := h2.shape
  unfold Oper.wp execOp
  simp only [ho, resolve, invoke, builtin, Sem.run_bind, Sem.run_pure, Result.andThen_ok, List.map_toArray, List.map_cons, List.map_nil, hs, hx, hrun]
  exact h _ _ _ _ h2 h3
theorem wpList_appendRP (hP : LoP P T Te E.size) {s x : Operand} (ho : o.op = .call { callee := .builtin .append, args := #[s, x], argTypes := #[T, T] }) (hgd : Region.wanted o (yielded ops a.tmps) = true)
    {base lo : Nat} {ad ax : Option Addr} {n c cx nx : Nat} {xs ys : List α} {S : Nat → Prop} (hs : a.eval s = .slice ad n c) (hown : OwnL E Te base lo w (.slice ad n c) xs) (hx : a.eval x = .slice ax nx cx) (hr : RdL E S w (.slice ax nx cx) ys)
    (hS : ∀ k, S k → lo ≤ k ∧ k < w.heap.size ∧ some k ≠ Value.ownBlock (.slice ad n c)) (hbase : base ≤ w.heap.size)
    (h : ∀ ad2 k cap w', OwnL E Te base lo w' (.slice ad2 k cap) (xs ++ ys) → w.grownBy w' (Value.ownBlock (.slice ad n c)) → wpList P ops Q rest (a.put o.dst (.slice ad2 k cap)) w') (hlen : xs.length + ys.length ≤ 1073741824) : wpList P ops Q (o :: rest) a w :=
  BigFrame.wpList_want hgd fun _ hK => wp_appendRP hP ho hs hown hx hr hS hbase (fun ad2 k cap w' h1 h2 => hK _ _ (h ad2 k cap w' h1 h2)) hlen
end
end Go.Proofs.Ytmcleffpjfeegaa
