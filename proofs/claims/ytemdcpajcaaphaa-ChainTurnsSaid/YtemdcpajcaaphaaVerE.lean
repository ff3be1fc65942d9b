/-
  THE WALKS OF THE DOCUMENT's Vacuum AND Install (versions). At most a million versions, of at most a million bytes each.
-/
import Derived.WalkKit
import Derived.WalkSpells
import Derived.WalkLawsBesides
import Derived.Lib.Hide
import Derived.Deep.Cut
import Derived.Deep.QuietTactic
import Derived.BigQuiet
import Derived.Shelf.Abstract
import Derived.Test.YtemdcpajcaaphaaProg
import Derived.Test.YtemdcpajcaaphaaByte
import Derived.Test.YtemdcpajcaaphaaAux
import Derived.Test.YtemdcpajcaaphaaSink
import Derived.Test.YtemdcpajcaaphaaVer
import Derived.Test.YtemdcpajcaaphaaVerM
import Derived.Test.YtemdcpajcaaphaaVerR
import Derived.Test.YtemdcpajcaaphaaVerC
import Derived.Test.YtemdcpajcaaphaaVerD
namespace Go.Proofs.Ytemdcpajcaaphaa
open Go.RowKit Go.Shelf
theorem vacV_bad {l : List Ver} {s : Int} (h : ¬ okV l) : vacV l s = l := by unfold vacV; rw [if_neg h]
theorem vacV_zero {l : List Ver} {s : Int} (h : cntV l s = 0) : vacV l s = l := by unfold vacV; split <;> simp [h]
theorem vacV_gone {l : List Ver} {s : Int} {m : Nat} (hk : okV l) (h : cntV l s = m + 1) (hm : m < l.length) (hg : l[m].gone = true) : vacV l s = l.drop (m + 1) := by
  unfold vacV
  rw [if_pos hk, dif_pos (by omega)]
  simp only [h, Nat.add_sub_cancel, hg, if_true]
theorem vacV_some {l : List Ver} {s : Int} {m : Nat} (hk : okV l) (h : cntV l s = m + 1) (hm : m < l.length) (hg : l[m].gone = false) : vacV l s = l.drop m := by
  unfold vacV
  rw [if_pos hk, dif_pos (by omega)]
  simp only [h, Nat.add_sub_cancel, hg, Bool.false_eq_true, if_false]
theorem CopyEnd.later {w0 w w' : World} {l : List Ver} {e : Ending} (hb : Below w0.heap.size w0 w) (h : CopyEnd w l e w') : CopyEnd w0 l e w' := by
  obtain ⟨a, c, rfl, hO, h2⟩ := h
  exact ⟨a, c, rfl, hO.to hb.size hb.size, hb.trans (h2.mono hb.size)⟩
theorem mem_part {l : List Ver} {x : Ver} {i j : Nat} (h : x ∈ (l.drop i).take j) : x ∈ l := List.mem_of_mem_drop (List.mem_of_mem_take h)
set_option maxRecDepth 100000 in
set_option maxHeartbeats 1000000 in
theorem refVacuum_any (w : World) {S : Nat → Prop} {a : Option Addr} {n c : Nat} {l : List Ver} (hl : RdL Elt.ver S w (.slice a n c) l) (hn : l.length ≤ 1000000) (hx : ∀ x ∈ l, x.value.length ≤ 1000000) (s : Int) :
    Calls Try.prog 18 #[.slice a n c, .int .i64 s] w (CopyEnd w (vacV l s)) := by
  obtain ⟨rfl, hnc, hcm⟩ := hl.len
  have hlm : l.length ≤ 9223372036854775807 := by omega
  go_enter Try.func18, Try.ntmps18
  go_wp2_with fail
  refine (refCheckV_any w hl).mono ?_
  rintro e w1 ⟨rfl, hb1⟩
  replace hl := hl.below hb1
  by_cases hk : okV l
  · rw [decide_eq_true hk]
    go_wp2_with fail
    refine (refAt_any w1 hl s).mono ?_
    rintro e w2 ⟨rfl, rfl⟩
    cases hc : cntV l s with
    | zero =>
      have hv := Lib.hid (vacV_zero hc)
      clear hk hc
      go_wp2_with fail
      refine (refCopyV_any _ hl hn hx).mono ?_
      rintro e w3 hE
      have hE2 := CopyEnd.later hb1 hE
      obtain ⟨ar, cr, rfl, _⟩ := hE
      go_wp2_with fail
      go_ret
      rw [hv.out]
      exact hE2
    | succ m =>
      have hml : m < l.length := by have := cntV_le l s; omega
      have hm1 : (((m + 1 : Nat) : Int)) - 1 = (m : Int) := by omega
      rw [hm1]
      have hmn : decide ((m : Int) < 0) = false := by rw [decide_eq_false_iff_not]; omega
      obtain ⟨b, off, Av, Cv, rfl, hb, c0, c1, c2, hv, hi, hn1, hn2⟩ := hl.ver m hml
      cases hg : l[m].gone with
      | true =>
        have hv := Lib.hid (vacV_gone hk hc hml hg)
        rw [hg] at c1
        clear hk hc hm1 hg c0 c2 hi hn1
        go_wp2_with (refine wpList_sliceL (E := Elt.ver) verP.toLsP rfl rfl rfl hl (l := m + 1) (r := l.length) (run_bounds_l' _ (by omega) hml) ?_ hml (Nat.le_refl _); intro ap cp hp)
        refine (refCopyV_any _ hp (by simp; omega) (fun x h => hx x (mem_part h))).mono ?_
        rintro e w3 hE
        rw [List.take_of_length_le (by simp)] at hE
        have hE2 := CopyEnd.later hb1 hE
        obtain ⟨ar, cr, rfl, _⟩ := hE
        go_wp2_with fail
        go_ret
        rw [hv.out]
        rw [List.length_drop] at hE2
        exact hE2
      | false =>
        have hv := Lib.hid (vacV_some hk hc hml hg)
        rw [hg] at c1
        clear hk hc hm1 hg c0 c2 hi hn1
        go_wp2_with (refine wpList_sliceL (E := Elt.ver) verP.toLsP rfl rfl rfl hl (l := m) (r := l.length) (run_bounds_l' _ rfl (by omega)) ?_ (by omega) (Nat.le_refl _); intro ap cp hp)
        refine (refCopyV_any _ hp (by simp; omega) (fun x h => hx x (mem_part h))).mono ?_
        rintro e w3 hE
        rw [List.take_of_length_le (by simp)] at hE
        have hE2 := CopyEnd.later hb1 hE
        obtain ⟨ar, cr, rfl, _⟩ := hE
        go_wp2_with fail
        go_ret
        rw [hv.out]
        rw [List.length_drop] at hE2
        exact hE2
  · have hv := Lib.hid (vacV_bad (s := s) hk)
    rw [decide_eq_false hk]
    clear hk
    go_wp2_with fail
    refine (refCopyV_any _ hl hn hx).mono ?_
    rintro e w3 hE
    have hE2 := CopyEnd.later hb1 hE
    obtain ⟨ar, cr, rfl, _⟩ := hE
    go_wp2_with fail
    go_ret
    rw [hv.out]
    exact hE2

/-- What Install hands back: new memory, all of it. -/
def InstEnd (w : World) (l : List Ver) (x : Ver) (e : Ending) (w' : World) : Prop :=
  ∃ a c, e = .returned (.tuple #[.slice a (instV l x).1.length c, .int .i64 ((instV l x).2 : Nat)]) ∧ OwnL Elt.ver 25 w.heap.size w.heap.size w' (.slice a (instV l x).1.length c) (instV l x).1 ∧ Below w.heap.size w w'
theorem InstEnd.of {w0 w w' : World} {l m : List Ver} {x : Ver} {er : Nat} {a : Option Addr} {c : Nat} (hb : Below w0.heap.size w0 w) (h : instV l x = (m, er)) (hO : OwnL Elt.ver 25 w.heap.size w.heap.size w' (.slice a m.length c) m) (h2 : Below w.heap.size w w') : InstEnd w0 l x (.returned (.tuple #[.slice a m.length c, .int .i64 er])) w' := by
  unfold InstEnd
  rw [h]
  exact ⟨a, c, rfl, hO.to hb.size hb.size, hb.trans (h2.mono hb.size)⟩
theorem instV_arg {l : List Ver} {x : Ver} (h : ¬ (okV l ∧ mayV x)) : instV l x = (l, 1) := by unfold instV; rw [if_neg h]
theorem instV_nil {l : List Ver} {x : Ver} (h0 : l.length = 0) (h : mayV x) : instV l x = (l ++ [x], 0) := by
  obtain rfl : l = [] := List.eq_nil_of_length_eq_zero h0
  unfold instV
  rw [if_pos ⟨fun i h => absurd h (Nat.not_lt_zero _), h⟩]
  rfl
theorem instV_old {l : List Ver} {x : Ver} {m : Nat} (hk : okV l) (h : mayV x) (hm : l.length = m + 1) (hs : x.stamp ≤ (l[m]'(by omega)).stamp) : instV l x = (l, 50) := by
  unfold instV
  rw [if_pos ⟨hk, h⟩, List.getLast?_eq_getElem?, show l.length - 1 = m by omega, List.getElem?_eq_getElem (by omega)]
  simp only [if_pos hs]
theorem instV_new {l : List Ver} {x : Ver} {m : Nat} (hk : okV l) (h : mayV x) (hm : l.length = m + 1) (hs : ¬ x.stamp ≤ (l[m]'(by omega)).stamp) : instV l x = (l ++ [x], 0) := by
  unfold instV
  rw [if_pos ⟨hk, h⟩, List.getLast?_eq_getElem?, show l.length - 1 = m by omega, List.getElem?_eq_getElem (by omega)]
  simp only [if_neg hs]

def gZeroL (base : Nat) : SG := ⟨fun w v => ∃ g, v = .slice (some g) 0 0 ∧ OwnL Elt.ver 25 base 0 w (.slice (some g) 0 0) [], fun _ _ _ ⟨g, h, ho⟩ hb => ⟨g, h, ho.below hb⟩⟩
def gOwnL (base lo : Nat) (l : List Ver) : SG := ⟨fun w v => ∃ ad k c, v = .slice ad k c ∧ OwnL Elt.ver 25 base lo w (.slice ad k c) l, fun _ _ _ ⟨ad, k, c, h, ho⟩ hb => ⟨ad, k, c, h, ho.below hb⟩⟩
def gRow1 (base : Nat) (us : List Value) : SG := ⟨fun w v => ∃ b, v = .slice (some ⟨b, 0, none⟩) 1 1 ∧ base ≤ b ∧ w.heap[b]? = some (.cells us.toArray 25 (0, 0)), fun _ _ _ ⟨b, h, h0, hc⟩ hb => ⟨b, h, h0, (hb.block b (Array.getElem?_eq_some_iff.1 hc).1).trans hc⟩⟩
/-- A world in which some block that is new has grown. -/
def GrN (n : Nat) (A B : World) : Prop := ∃ r, A.grownBy B r ∧ ∀ k, r = some k → n ≤ k
theorem run_build0L (w : World) : (Instr.buildSlice 22 0 #[]).run Try.prog w = .ok (.slice (some ⟨w.heap.size, 0, none⟩) 0 0) (w.alloc (.cells #[] 25)) := by
  obtain ⟨i, z, hi, hz, hsz, hby, hzs⟩ := verP.all
  simp [Instr.buildSlice, run_underlying verP.hT, sizeOf, typeInfo, hi, Instr.fill, newRow, show Array.range 0 = #[] from rfl]
theorem wp_build0L {o : Oper} {a : Act} {K : Act → World → Prop} {Q : Exit → Act → World → Prop} {w : World} (ho : o.op = .buildSlice 22 0 #[])
    (h : K (a.put o.dst (.slice (some ⟨w.heap.size, 0, none⟩) 0 0)) (w.alloc (.cells #[] 25))) : o.wp Try.prog a w K Q := by
  have hrun := run_build0L w
  unfold Oper.wp execOp
  simp only [ho, Sem.run_bind, Sem.run_pure, Result.andThen_ok, List.map_toArray, List.map_nil, hrun]
  exact h
theorem own0L (w : World) (base lo : Nat) (hb : base ≤ w.heap.size) : OwnL Elt.ver 25 base lo (w.alloc (.cells #[] 25)) (.slice (some ⟨w.heap.size, 0, none⟩) 0 0) [] :=
  ⟨[], ⟨by simp, .inr ⟨w.heap.size, 0, #[], rfl, hb, heap_alloc_new w _, Nat.le_refl _, by unfold maxLen; omega, by simp, by simp⟩⟩, rfl⟩
set_option maxRecDepth 100000 in
set_option maxHeartbeats 2000000 in
theorem refInstall_any (w : World) {B : Nat} {a : Option Addr} {n c : Nat} {l : List Ver} (hl : RdL Elt.ver (· < B) w (.slice a n c) l) (hB : B ≤ w.heap.size) (hn : l.length ≤ 900000) (hx : ∀ x ∈ l, x.value.length ≤ 1000000) {x : Ver} {Ax : Option Addr} {nx Cx : Nat} (hxv : RdS (· < B) w (.slice Ax nx Cx) x.value) (hxl : x.value.length ≤ 1000000) (hxi : I64' x.stamp) :
    Calls Try.prog 15 #[.slice a n c, .agg #[.int .i64 x.stamp, .bool x.gone, .slice Ax nx Cx]] w (InstEnd w l x) := by
  obtain ⟨rfl, hnc, hcm⟩ := hl.len
  obtain ⟨rfl, hxc, hxm⟩ := hxv.len
  have hlm : l.length ≤ 9223372036854775807 := by omega
  have hbx := TriV.new w 25 (.int .i64 x.stamp) (.bool x.gone) (.slice Ax x.value.length Cx)
  have q : Below w.heap.size w (w.alloc (.cells #[.int .i64 x.stamp, .bool x.gone, .slice Ax x.value.length Cx] 25)) := (Below.refl _ _).alloc (Nat.le_refl _) _
  go_enter Try.func15, Try.ntmps15
  go_wp2_with fail
  generalize w.alloc (.cells #[.int .i64 x.stamp, .bool x.gone, .slice Ax x.value.length Cx] 25) = W at *
  replace hl := hl.keep (w' := W) (fun k hk => q.block k (by omega))
  replace hxv := hxv.keep (w' := W) (fun k hk => q.block k (by omega))
  refine (refCheckV_any W hl).mono ?_
  rintro e w1 ⟨rfl, hb1⟩
  replace hl := hl.below hb1
  replace hxv := hxv.below hb1
  replace hbx := hbx.below hb1 hbx.lt
  replace q := q.trans (hb1.mono q.size)
  clear hb1
  have x0 := hbx.cell0
  have x1 := hbx.cell1
  have x2 := hbx.cell2
  go_wp2_with fail
  refine (refMay_any w1 hxv).mono ?_
  rintro e w2 ⟨rfl, hb2⟩
  clear x0 x1 x2
  replace hl := hl.below hb2
  replace hxv := hxv.below hb2
  replace hbx := hbx.below hb2 hbx.lt
  replace q := q.trans (hb2.mono q.size)
  clear hb2
  by_cases hkm : okV l ∧ mayV x
  · obtain ⟨hk, hm⟩ := hkm
    rw [decide_eq_true hk, show decide (mayV ⟨x.stamp, x.gone, x.value⟩) = true from decide_eq_true hm]
    have x0 := hbx.cell0
    rcases Nat.eq_zero_or_pos l.length with h0 | h0
    · have hv := Lib.hid (instV_nil h0 hm)
      have d0 : decide ((0 : Int) < (l.length : Int)) = false := by rw [decide_eq_false_iff_not]; omega
      have d00 : decide (0 < l.length) = false := by rw [decide_eq_false_iff_not]; omega
      clear hk hm h0
      go_upto_region 5 with (fail)
      go_quiet (fail)
      go_upto_region 7 with (fail)
      have hl7 := hl.below (Below.drewN (Below.refl w2.heap.size w2) nq)
      have hxv7 := hxv.below (Below.drewN (Below.refl w2.heap.size w2) nq)
      have hbx7 : TriV (w2.drewN nq) w.heap.size 25 (.int .i64 x.stamp) (.bool x.gone) (.slice Ax x.value.length Cx) := hbx
      have q7 : Below w.heap.size w (w2.drewN nq) := Below.drewN q _
      clear hl hxv hbx q
      generalize w2.drewN nq = W7 at *
      have hBW : B ≤ W7.heap.size := Nat.le_trans hB q7.size
      refine wp_region_sink2 (by kernel_rfl) (by kernel_rfl) (GrN W7.heap.size) 5 (fun i => decide (i < 5)) (by kernel_rfl) (fun i => decide (i = 6 ∨ i = 7)) (by kernel_rfl) (fun i => decide (i = 0 ∨ i = 2 ∨ i = 4)) (fun A => Below W7.heap.size W7 A) (fun A h => h) (fun A => ⟨none, grown_refl A _, fun k e => by cases e⟩) (fun A B h k => h.trans (k.mono h.size)) (fun A B h k => by obtain ⟨r, hg, hr⟩ := k; exact h.grown hg h.size hr)
        [mAny, mEq (.slice a l.length c), mAny, mEq (.agg #[.int .i64 x.stamp, .bool x.gone, .slice Ax x.value.length Cx]), mAny, mAny, mAny, mAny, mEq (.int .i64 0)]
        (gOwnL W7.heap.size 0 (l ++ [x]))
        (fun i => match i with | 0 => gZeroL W7.heap.size | 2 => gOwnL W7.heap.size 0 l | 4 => gRow1 W7.heap.size (verC x (.slice Ax x.value.length Cx)) | _ => ⟨fun w' v => ∃ a k c, v = .slice a k c ∧ OwnL Elt.ver 25 W7.heap.size W7.heap.size w' (.slice a k c) (l ++ [x]), fun _ _ _ ⟨a, k, c, h, ho⟩ hb => ⟨a, k, c, h, ho.below hb⟩⟩)
        ⟨?o0, ?o1, ?o2, ?o3, ?o4, ?o5, ?o6, ?o7, ?o8, trivial⟩ ?fin
      case o0 =>
        refine GdOpM.plain rfl (fun A vs w' hF hT hR h0 hu hd => ?_)
        exact wp_build0L rfl ⟨_, rfl, ⟨_, rfl, own0L w' W7.heap.size 0 (h0 (.inl rfl)).size⟩, (Below.refl _ _).alloc (Nat.le_refl _) _⟩
      case o1 =>
        refine GdOpM.plain rfl (fun A vs w' hF hT hR h0 hu hd => ?_)
        have e1 : A.eval (.tmp 0) = .slice a l.length c := hF 0 rfl
        exact BigFrame.wp_move _ rfl ⟨_, rfl, e1, Below.refl _ _⟩
      case o2 =>
        refine GdOpM.plain rfl (fun A vs w' hF hT hR h0 hu hd => ?_)
        have e2 : A.eval (.tmp 38) = .slice a l.length c := (hT 38 1 (by simp) rfl).trans (hd ⟨1, .data⟩ (by simp) rfl)
        obtain ⟨g, q0, hZ⟩ := hd ⟨0, .data⟩ (by simp) rfl
        have e3 : A.eval (.tmp 37) = .slice (some g) 0 0 := (hT 37 0 (by simp) rfl).trans q0
        exact wp_append_zeroL (E := Elt.ver) (lo := 0) verP rfl e3 hZ e2 (hl7.below (h0 (.inl rfl))) (fun k hk => ⟨Nat.zero_le _, Nat.lt_of_lt_of_le hk (Nat.le_trans hBW (h0 (.inl rfl)).size)⟩) (h0 (.inl rfl)).size (fun ad k cap w2 h2 hb => ⟨_, rfl, ⟨_, _, _, rfl, h2⟩, hb⟩) (by first | omega | (simp; omega))
      case o3 =>
        refine GdOpM.plain rfl (fun A vs w' hF hT hR h0 hu hd => ?_)
        have e1 : A.eval (.tmp 3) = .pointer (some ⟨w.heap.size, 0, none⟩) := hF 3 rfl
        have hb3 := hbx7.below (h0 (.inl rfl)) hbx7.lt
        exact wp_load3 verS rfl e1 hb3.cell0 hb3.cell1 hb3.cell2 ⟨_, rfl, rfl, Below.refl _ _⟩
      case o4 =>
        refine GdOpM.plain rfl (fun A vs w' hF hT hR h0 hu hd => ?_)
        have e1 : A.eval (.tmp 40) = .agg #[.int .i64 x.stamp, .bool x.gone, .slice Ax x.value.length Cx] := (hT 40 3 (by simp) rfl).trans (hd ⟨3, .data⟩ (by simp) rfl)
        exact wp_buildOne verP rfl e1 (us := verC x (.slice Ax x.value.length Cx)) rfl rfl (by omega) (by omega) ⟨_, rfl, ⟨_, rfl, (h0 (.inl rfl)).size, by simp only [World.alloc, Array.getElem?_push_size]⟩, (Below.refl _ _).alloc (Nat.le_refl _) _⟩
      case o5 =>
        refine GdOpM.plain rfl (fun A vs w' hF hT hR h0 hu hd => ?_)
        obtain ⟨ad5, k5, c5, q5, hO5⟩ := hd ⟨2, .data⟩ (by simp) rfl
        have e3 : A.eval (.tmp 39) = .slice ad5 k5 c5 := (hT 39 2 (by simp) rfl).trans q5
        obtain ⟨b6, q6, hb6, hc6⟩ := hd ⟨4, .data⟩ (by simp) rfl
        have e4 : A.eval (.tmp 41) = .slice (some ⟨b6, 0, none⟩) 1 1 := (hT 41 4 (by simp) rfl).trans q6
        have hq := (h0 (.inr rfl))
        refine wp_appendL (E := Elt.ver) (ys := [x]) (lo := 0) verP rfl e3 hO5 e4 (cells_at hc6) (Flat.single (E := Elt.ver) (S := (· < B)) ⟨_, rfl, hxv7.keep (fun k hk => hq.block k (Nat.lt_of_lt_of_le hk hBW)), hxi⟩) (fun k hk => ⟨Nat.zero_le _, Nat.lt_of_lt_of_le hk (Nat.le_trans hBW hq.size), fun e => by have h5 := (hO5.block_lt k e.symm).1; omega⟩) hq.size (fun ad k cap w2 h2 hg h3 => ⟨_, rfl, ⟨_, _, _, rfl, h2⟩, ⟨_, hg, fun k e => (hO5.block_lt k e).1⟩⟩) (by first | (simp; done) | (simp; omega))
      case o6 =>
        refine GdOpM.plain rfl (fun A vs w' hF hT hR h0 hu hd => ?_)
        obtain ⟨ad5, k5, c5, q5, hO5⟩ := hd ⟨5, .data⟩ (by simp) rfl
        have e3 : A.eval (.tmp 42) = .slice ad5 k5 c5 := (hT 42 5 (by simp) rfl).trans q5
        refine wp_callFn rfl (enters_of Try.func29 (by kernel_rfl) rfl) (args := #[.slice ad5 k5 c5]) (by simp [e3]) ((refCopyV_any w' hO5.rdL (by first | (simp; done) | (simp; omega)) (fun y hy => (List.mem_append.1 hy).elim (fun h => hx y h) (fun h => by rw [List.mem_singleton.1 h]; exact hxl))).mono ?_)
        rintro e w2 ⟨ar, cr, rfl, hO6, hb6⟩
        exact ⟨_, rfl, _, rfl, ⟨ar, _, cr, rfl, hO6.to hR.size hR.size⟩, hb6⟩
      case o7 =>
        refine GdOpM.plain rfl (fun A vs w' hF hT hR h0 hu hd => ?_)
        obtain ⟨ar, kr, cr, q5, hO5⟩ := hd ⟨6, .data⟩ (by simp) rfl
        exact BigFrame.wp_assign _ rfl ⟨_, rfl, ⟨ar, kr, cr, (hT 43 6 (by simp) rfl).trans q5, hO5⟩, Below.refl _ _⟩
      case o8 =>
        refine GdOpM.plain rfl (fun A vs w' hF hT hR h0 hu hd => ?_)
        exact BigFrame.wp_assign _ rfl ⟨_, rfl, rfl, Below.refl _ _⟩
      case fin =>
        intro vs w' hR hG
        obtain ⟨ar, kr, cr, e7, hO⟩ := hG 7 (by decide) rfl
        have e1 : vs 1 = .slice a l.length c := hG 1 (by decide) rfl
        have e3 : vs 3 = .agg #[.int .i64 x.stamp, .bool x.gone, .slice Ax x.value.length Cx] := hG 3 (by decide) rfl
        have e8 : vs 8 = .int .i64 0 := hG 8 (by decide) rfl
        simp only [putAll, e1, e3, e8, e7]
        clear hG e1 e3 e8 e7
        go_simp
        go_wp2_with fail
        go_ret2
        obtain rfl := hO.len
        exact InstEnd.of q7 hv.out hO hR
    · obtain ⟨m, hml⟩ : ∃ m, l.length = m + 1 := ⟨l.length - 1, by omega⟩
      obtain ⟨b, off, Av, Cv, rfl, hb, c0, c1, c2, hv, hi, hn1, hn2⟩ := hl.ver m (by omega)
      have hm1 : (l.length : Int) - 1 = (m : Int) := by omega
      have hmlt : (m : Int) < (l.length : Int) := by omega
      have hpos : (0 : Int) < (l.length : Int) := by omega
      clear c1 c2 hv hn1 hn2
      by_cases hs : x.stamp ≤ (l[m]'(by omega)).stamp
      · have hv := Lib.hid (instV_old hk hm hml hs)
        have dS : decide (x.stamp ≤ (l[m]'(by omega)).stamp) = true := decide_eq_true hs
        clear hk hm hs hi
        generalize (l[m]'(by omega)).stamp = st at *
        clear hml
        go_upto_region 5 with (fail)
        go_quiet (fail)
        go_wp2_with fail
        refine (refCopyV_any _ (hl.below (Below.drewN (Below.refl _ _) _)) (by omega) hx).mono ?_
        rintro e w3 ⟨ar, cr, rfl, hO, hb3⟩
        go_wp2_with fail
        go_ret2
        exact InstEnd.of (Below.drewN q _) hv.out hO hb3
      · have hv := Lib.hid (instV_new hk hm hml hs)
        have dS : decide (x.stamp ≤ (l[m]'(by omega)).stamp) = false := decide_eq_false hs
        clear hk hm hs hi
        generalize (l[m]'(by omega)).stamp = st at *
        clear hml
        go_upto_region 5 with (fail)
        go_quiet (fail)
        go_upto_region 7 with (fail)
        have hl7 := hl.below (Below.drewN (Below.refl w2.heap.size w2) nq)
        have hxv7 := hxv.below (Below.drewN (Below.refl w2.heap.size w2) nq)
        have hbx7 : TriV (w2.drewN nq) w.heap.size 25 (.int .i64 x.stamp) (.bool x.gone) (.slice Ax x.value.length Cx) := hbx
        have q7 : Below w.heap.size w (w2.drewN nq) := Below.drewN q _
        clear hl hxv hbx q
        generalize w2.drewN nq = W7 at *
        have hBW : B ≤ W7.heap.size := Nat.le_trans hB q7.size
        refine wp_region_sink2 (by kernel_rfl) (by kernel_rfl) (GrN W7.heap.size) 5 (fun i => decide (i < 5)) (by kernel_rfl) (fun i => decide (i = 6 ∨ i = 7)) (by kernel_rfl) (fun i => decide (i = 0 ∨ i = 2 ∨ i = 4)) (fun A => Below W7.heap.size W7 A) (fun A h => h) (fun A => ⟨none, grown_refl A _, fun k e => by cases e⟩) (fun A B h k => h.trans (k.mono h.size)) (fun A B h k => by obtain ⟨r, hg, hr⟩ := k; exact h.grown hg h.size hr)
          [mAny, mEq (.slice (some ⟨b, off, none⟩) l.length c), mAny, mEq (.agg #[.int .i64 x.stamp, .bool x.gone, .slice Ax x.value.length Cx]), mAny, mAny, mAny, mAny, mEq (.int .i64 0)]
          (gOwnL W7.heap.size 0 (l ++ [x]))
          (fun i => match i with | 0 => gZeroL W7.heap.size | 2 => gOwnL W7.heap.size 0 l | 4 => gRow1 W7.heap.size (verC x (.slice Ax x.value.length Cx)) | _ => ⟨fun w' v => ∃ a k c, v = .slice a k c ∧ OwnL Elt.ver 25 W7.heap.size W7.heap.size w' (.slice a k c) (l ++ [x]), fun _ _ _ ⟨a, k, c, h, ho⟩ hb => ⟨a, k, c, h, ho.below hb⟩⟩)
          ⟨?o0, ?o1, ?o2, ?o3, ?o4, ?o5, ?o6, ?o7, ?o8, trivial⟩ ?fin
        case o0 =>
          refine GdOpM.plain rfl (fun A vs w' hF hT hR h0 hu hd => ?_)
          exact wp_build0L rfl ⟨_, rfl, ⟨_, rfl, own0L w' W7.heap.size 0 (h0 (.inl rfl)).size⟩, (Below.refl _ _).alloc (Nat.le_refl _) _⟩
        case o1 =>
          refine GdOpM.plain rfl (fun A vs w' hF hT hR h0 hu hd => ?_)
          have e1 : A.eval (.tmp 0) = .slice (some ⟨b, off, none⟩) l.length c := hF 0 rfl
          exact BigFrame.wp_move _ rfl ⟨_, rfl, e1, Below.refl _ _⟩
        case o2 =>
          refine GdOpM.plain rfl (fun A vs w' hF hT hR h0 hu hd => ?_)
          have e2 : A.eval (.tmp 38) = .slice (some ⟨b, off, none⟩) l.length c := (hT 38 1 (by simp) rfl).trans (hd ⟨1, .data⟩ (by simp) rfl)
          obtain ⟨g, q0, hZ⟩ := hd ⟨0, .data⟩ (by simp) rfl
          have e3 : A.eval (.tmp 37) = .slice (some g) 0 0 := (hT 37 0 (by simp) rfl).trans q0
          exact wp_append_zeroL (E := Elt.ver) (lo := 0) verP rfl e3 hZ e2 (hl7.below (h0 (.inl rfl))) (fun k hk => ⟨Nat.zero_le _, Nat.lt_of_lt_of_le hk (Nat.le_trans hBW (h0 (.inl rfl)).size)⟩) (h0 (.inl rfl)).size (fun ad k cap w2 h2 hb => ⟨_, rfl, ⟨_, _, _, rfl, h2⟩, hb⟩) (by first | omega | (simp; omega))
        case o3 =>
          refine GdOpM.plain rfl (fun A vs w' hF hT hR h0 hu hd => ?_)
          have e1 : A.eval (.tmp 3) = .pointer (some ⟨w.heap.size, 0, none⟩) := hF 3 rfl
          have hb3 := hbx7.below (h0 (.inl rfl)) hbx7.lt
          exact wp_load3 verS rfl e1 hb3.cell0 hb3.cell1 hb3.cell2 ⟨_, rfl, rfl, Below.refl _ _⟩
        case o4 =>
          refine GdOpM.plain rfl (fun A vs w' hF hT hR h0 hu hd => ?_)
          have e1 : A.eval (.tmp 40) = .agg #[.int .i64 x.stamp, .bool x.gone, .slice Ax x.value.length Cx] := (hT 40 3 (by simp) rfl).trans (hd ⟨3, .data⟩ (by simp) rfl)
          exact wp_buildOne verP rfl e1 (us := verC x (.slice Ax x.value.length Cx)) rfl rfl (by omega) (by omega) ⟨_, rfl, ⟨_, rfl, (h0 (.inl rfl)).size, by simp only [World.alloc, Array.getElem?_push_size]⟩, (Below.refl _ _).alloc (Nat.le_refl _) _⟩
        case o5 =>
          refine GdOpM.plain rfl (fun A vs w' hF hT hR h0 hu hd => ?_)
          obtain ⟨ad5, k5, c5, q5, hO5⟩ := hd ⟨2, .data⟩ (by simp) rfl
          have e3 : A.eval (.tmp 39) = .slice ad5 k5 c5 := (hT 39 2 (by simp) rfl).trans q5
          obtain ⟨b6, q6, hb6, hc6⟩ := hd ⟨4, .data⟩ (by simp) rfl
          have e4 : A.eval (.tmp 41) = .slice (some ⟨b6, 0, none⟩) 1 1 := (hT 41 4 (by simp) rfl).trans q6
          have hq := (h0 (.inr rfl))
          refine wp_appendL (E := Elt.ver) (ys := [x]) (lo := 0) verP rfl e3 hO5 e4 (cells_at hc6) (Flat.single (E := Elt.ver) (S := (· < B)) ⟨_, rfl, hxv7.keep (fun k hk => hq.block k (Nat.lt_of_lt_of_le hk hBW)), hxi⟩) (fun k hk => ⟨Nat.zero_le _, Nat.lt_of_lt_of_le hk (Nat.le_trans hBW hq.size), fun e => by have h5 := (hO5.block_lt k e.symm).1; omega⟩) hq.size (fun ad k cap w2 h2 hg h3 => ⟨_, rfl, ⟨_, _, _, rfl, h2⟩, ⟨_, hg, fun k e => (hO5.block_lt k e).1⟩⟩) (by first | (simp; done) | (simp; omega))
        case o6 =>
          refine GdOpM.plain rfl (fun A vs w' hF hT hR h0 hu hd => ?_)
          obtain ⟨ad5, k5, c5, q5, hO5⟩ := hd ⟨5, .data⟩ (by simp) rfl
          have e3 : A.eval (.tmp 42) = .slice ad5 k5 c5 := (hT 42 5 (by simp) rfl).trans q5
          refine wp_callFn rfl (enters_of Try.func29 (by kernel_rfl) rfl) (args := #[.slice ad5 k5 c5]) (by simp [e3]) ((refCopyV_any w' hO5.rdL (by first | (simp; done) | (simp; omega)) (fun y hy => (List.mem_append.1 hy).elim (fun h => hx y h) (fun h => by rw [List.mem_singleton.1 h]; exact hxl))).mono ?_)
          rintro e w2 ⟨ar, cr, rfl, hO6, hb6⟩
          exact ⟨_, rfl, _, rfl, ⟨ar, _, cr, rfl, hO6.to hR.size hR.size⟩, hb6⟩
        case o7 =>
          refine GdOpM.plain rfl (fun A vs w' hF hT hR h0 hu hd => ?_)
          obtain ⟨ar, kr, cr, q5, hO5⟩ := hd ⟨6, .data⟩ (by simp) rfl
          exact BigFrame.wp_assign _ rfl ⟨_, rfl, ⟨ar, kr, cr, (hT 43 6 (by simp) rfl).trans q5, hO5⟩, Below.refl _ _⟩
        case o8 =>
          refine GdOpM.plain rfl (fun A vs w' hF hT hR h0 hu hd => ?_)
          exact BigFrame.wp_assign _ rfl ⟨_, rfl, rfl, Below.refl _ _⟩
        case fin =>
          intro vs w' hR hG
          obtain ⟨ar, kr, cr, e7, hO⟩ := hG 7 (by decide) rfl
          have e1 : vs 1 = .slice (some ⟨b, off, none⟩) l.length c := hG 1 (by decide) rfl
          have e3 : vs 3 = .agg #[.int .i64 x.stamp, .bool x.gone, .slice Ax x.value.length Cx] := hG 3 (by decide) rfl
          have e8 : vs 8 = .int .i64 0 := hG 8 (by decide) rfl
          simp only [putAll, e1, e3, e8, e7]
          clear hG e1 e3 e8 e7
          go_simp
          go_wp2_with fail
          go_ret2
          obtain rfl := hO.len
          exact InstEnd.of q7 hv.out hO hR
  · have hv := Lib.hid (instV_arg hkm)
    by_cases hk : okV l
    · have hm : ¬ mayV x := fun h => hkm ⟨hk, h⟩
      rw [decide_eq_true hk, show decide (mayV ⟨x.stamp, x.gone, x.value⟩) = false from decide_eq_false hm]
      clear hk hm hkm
      go_wp2_with fail
      refine (refCopyV_any _ hl (by omega) hx).mono ?_
      rintro e w3 ⟨ar, cr, rfl, hO, hb3⟩
      go_wp2_with fail
      go_ret2
      exact InstEnd.of q hv.out hO hb3
    · rw [decide_eq_false hk]
      clear hk hkm
      go_wp2_with fail
      refine (refCopyV_any _ hl (by omega) hx).mono ?_
      rintro e w3 ⟨ar, cr, rfl, hO, hb3⟩
      go_wp2_with fail
      go_ret2
      exact InstEnd.of q hv.out hO hb3
end Go.Proofs.Ytemdcpajcaaphaa
