/-
  TEXTS OF ONE PROOF, merged: Dml, Dmg, Dmh, Dmn, Dmo, Dmp, Dmq, DltG, DltH.
-/
import Derived.Carry
import Derived.Maps.Own
import Derived.Maps.Range
import Derived.Maps.Views
import Derived.Shelf.SlGeneric
import Derived.Shelf.SlSortCmp.NoneTotal
import Derived.Shelf.SlSortCmp.WholeK
import Derived.StillTailTactics
import Derived.Test.YtjbdkhddnblieaaMo6
namespace Go.Proofs.Ytjbdkhddnblieaa
open Go.RowKit Go.Shelf Go.Maps
attribute [local go_sem] Oper.semAt_some
def cellsP2 (p : Plc) : List Value := [.int .i64 p.table, .string (strOf p.key)]
theorem plsP : LoP Try.prog 68 62 2 := ⟨⟨by kernel_rfl, by kernel_rfl⟩, .agg #[.int .i64 0, .string (strOf [])], 24, by kernel_rfl, rfl, by omega⟩
theorem keysP_stops {H : Type} (Bm b nn : Nat) (D0 : DataW H) {R : Value → Option (DataW H × List MemPlace)} (w : World) (hm : w.cell? ⟨Bm, 0, none⟩ = some (.map (some b))) (hown : w.ownsMap Try.prog 62 R b nn D0) :
    SeqStopsK Fence.wide 2 Try.prog 53 #[.pointer (some ⟨Bm, 0, none⟩)] (fun p => #[valP p]) KeepsWalks (PlcOf D0) (fun _ : List Plc => True) (Maps.size D0) w := fun l J Jx W hW hJ _ hY h0 => by
  have hown' : W.ownsMap Try.prog 62 R b nn D0 := by
    have hbl := hown.lt
    obtain ⟨es, clock, hb, Ft, hs, hD⟩ := hown
    exact ⟨es, clock, (hW.block b hbl).trans hb, Ft, hs, hD⟩
  exact keys1P_in l Bm b nn D0 J Jx hY W hJ ((hW.cell (p := ⟨Bm, 0, none⟩) (cell_lt hm)).trans hm) hown' h0
set_option maxRecDepth 100000 in
theorem keysP_any (w : World) (b : Nat) : Calls Try.prog 40 #[.map (some b)] w fun e w' => e = .returned (.func (.func 53) #[] #[.pointer (some ⟨w.heap.size, 0, none⟩)]) ∧ w' = w.alloc (.cells #[.map (some b)] 67) := by
  go_enter Try.func40, Try.ntmps40
  go_wp2
  go_ret
  exact ⟨rfl, rfl⟩
theorem inR_buildOne {P : Program} {T Te : TypeId} {ops : Array Oper} {rest : List Oper} {o : Oper} {a : Act} {Q : Exit → Act → World → Prop} {w : World} {l n m : Nat} {y : Operand} {v : Value} {us : List Value} (hP : LoP P T Te n) (ho : o.op = .buildSlice T 1 #[(0, y)]) (hgd : Region.wanted o (yielded ops a.tmps) = true) (hy : a.eval y = v) (hv : v.cells = us.toArray) (hl : us.length = n) (h0 : 0 < n) (hn : n ≤ 4096)
    (h : wpListIn (Fence.wide.inRound l) m P ops Q rest (a.put o.dst (.slice (some ⟨w.heap.size, 0, none⟩) 1 1)) (w.alloc (.cells us.toArray Te))) : wpListIn (Fence.wide.inRound l) m P ops Q (o :: rest) a w :=
  BigFrame.wpListIn_want hgd fun K hK => wp_opIn (K := K) (by rw [ho]; intro c h; cases h) (fun _ _ h => h) (wp_buildOne hP ho hy hv hl h0 hn (hK _ _ h))
def PlIn (w : World) (B : Nat) (pre : List Plc) (W : World) : Prop := (∃ v, Boxed W B 68 v ∧ W.ownsRow w.heap.size 62 2 v pre.length (pre.flatMap cellsP2) ∧ True) ∧ Below w.heap.size w W ∧ B < W.heap.size
set_option maxRecDepth 100000 in
set_option maxHeartbeats 4000000 in
theorem appendP_any (w : World) {H : Type} (Bm b nn : Nat) (D0 : DataW H) {R : Value → Option (DataW H × List MemPlace)} (hm : w.cell? ⟨Bm, 0, none⟩ = some (.map (some b))) (hown : w.ownsMap Try.prog 62 R b nn D0) (hN : Maps.size D0 ≤ 1000000) :
    Calls Try.prog 62 #[.slice none 0 0, .func (.func 53) #[] #[.pointer (some ⟨Bm, 0, none⟩)]] w fun e w' =>
      ∃ v ps, e = .returned v ∧ PlcOf D0 ps ∧ w'.ownsRow w.heap.size 62 2 v ps.length (ps.flatMap cellsP2) ∧ Below w.heap.size w w' := by
  refine calls_of_wp_marks Try.func62 rfl ?_
  simp only [Try.ntmps62, List.size_toArray, List.length_cons, List.length_nil, Nat.reduceAdd, Nat.reduceSub, Array.replicate_succ, Array.replicate_zero, List.push_toArray, List.append_toArray, List.nil_append, List.cons_append]
  have hst := keysP_stops Bm b nn D0 w hm hown
  obtain ⟨W0, hW0⟩ : ∃ W0, W0 = w.alloc (.cells #[.slice none 0 0] 68) := ⟨_, rfl⟩
  have z0 : W0.heap.size = w.heap.size + 1 := by rw [hW0]; simp
  have bx : Boxed W0 w.heap.size 68 (.slice none 0 0) := by rw [hW0]; exact Boxed.new w _ _
  have q : Below w.heap.size w W0 := by rw [hW0]; exact (Below.refl _ w).alloc (Nat.le_refl _) _
  go_upto_region 1 with (fail)
  rw [← hW0]
  clear hW0
  go_wp2_with fail
  refine wp_rangeFuncH (gf := 53) (lb := #[.pointer (some ⟨Bm, 0, none⟩)]) rfl (enters_of Try.func53 (by kernel_rfl) rfl)
      hst (fun h k => h.trans k) walksK_b q (fun _ => rfl)
      (PlIn w w.heap.size) (fun _ _ _ => False) ?hI ?hIx ⟨⟨_, bx, ⟨rfl, .inl ⟨rfl, rfl⟩⟩, trivial⟩, q, by omega⟩
      (fun (y : Plc) a' W => ∃ Bx, W0.heap.size ≤ Bx ∧ BoxN W Bx 62 (cellsP2 y) ∧ a' = { tmps := #[.slice none 0 0, .func (.func 53) #[] #[.pointer (some ⟨Bm, 0, none⟩)], .pointer (some ⟨w.heap.size, 0, none⟩), undef, .slice none 0 0, .pointer (some ⟨Bx, 0, none⟩), .func (.func 53) #[] #[.pointer (some ⟨Bm, 0, none⟩)], valP y, undef, undef, undef, undef, undef], defers := [] })
      ?hAx ?assign ?body ?done ?stop
  case hI =>
    refine OwnFrom.and ?_ (OwnFrom.and (below_ownN (Nat.le_refl _) (by omega)) (fun _ _ _ _ hs hg _ => Nat.lt_of_lt_of_le hs hg.size))
    exact (holdsRow_own w.heap.size w.heap.size 68 62 2 (fun s : List Plc => s.length) (fun s => s.flatMap cellsP2) (fun _ _ => True)).from _
  case hIx => exact fun _ _ _ _ _ h _ _ => h
  case hAx =>
    intro y a' _ X Y row hs hg hr
    obtain ⟨Bx, h1, h2, e⟩ := hs
    exact ⟨Bx, h1, boxN_own () X Y row h2 hg hr, e⟩
  case assign =>
    rintro l pre y W K ⟨⟨v, hv, hr, _⟩, hbw, hWS⟩ hK
    have eZ : (#[7] : Array Tmp).zip #[valP y] = #[(7, .agg #[.int .i64 y.table, .string (strOf y.key)])] := by kernel_rfl
    rw [eZ]
    simp only [List.foldl_toArray', List.foldl_cons, List.foldl_nil]
    go_simp
    gi_wp2_with (first | (refine inR_boxNew (vs := [.int .i64 0, .string (strOf [])]) (by kernel_rfl) rfl rfl ?_; intro wa hba hBa) | (refine inR_boxStore (us := [.int .i64 y.table, .string (strOf y.key)]) (by kernel_rfl) rfl rfl rfl rfl rfl rfl hBa rfl ?_; intro wb hgb hBb) | fail)
    have zz := hba.size
    have hbb := hba.grown hgb hba.size fun k e => by injection e with e; omega
    have zb := hbb.size
    exact hK _ _ ((keepsFrom_below hba).trans (keepsFrom_box hBa hgb)) ((KeepsWalks.of_grownBy (grown_bel hba) (fun j o e => nomatch e)).trans (KeepsWalks.of_grownBy hgb (fun j o e ho => by injection e with e; subst e; rw [show wa.heap[_]? = _ from hBa] at ho; cases ho; rfl))) ⟨⟨v, hv.kept (grown_bel hbb) (by simp), hr.kept (grown_bel hbb) (by cases v.ownBlock <;> simp), trivial⟩, hbw.trans (hbb.mono hbw.size), by omega⟩ ⟨W.heap.size, by omega, hBb, rfl⟩
  case body =>
    rintro l pre y a' W ⟨⟨v, hv, hr, _⟩, hbw, hWS⟩ ⟨Bx, hBx, hbx, rfl⟩ hlt
    obtain ⟨i, z, hi, hz, hsz, hby, hzs⟩ := plsP.all
    have hmul : (pre.length + 1) * i.bytes ≤ 1000000 * 4096 := Nat.mul_le_mul (by omega) hby
    have c0 := hv.cell
    have x0 := hbx.cell (i := 0) rfl
    have x1 := hbx.cell (i := 1) rfl
    have hqW := hbw.size
    gi_wp2_with (first
      | (refine inR_buildOne (us := [.int .i64 y.table, .string (strOf y.key)]) plsP rfl rfl rfl rfl rfl (by omega) (by omega) ?_)
      | (gi_at_builtin; refine wpListIn_append_own _ rfl _ _ 68 rfl w.heap.size 62 i z 2 i.bytes plsP.hT hi hz hsz rfl hzs (by decide) _ _ _ rfl (hr.alloc _) ⟨W.heap.size, 0, none⟩ 1 1 [.int .i64 y.table, .string (strOf y.key)] rfl rfl (cells_new W _ _) (by simp [Value.oneCell']) (by unfold maxLen; omega) (by omega) (by simp; omega) ?_; intro v' w3 hown' hg3 hnil3
         obtain ⟨hv1, hv2, hr2, hko, hbb⟩ := Boxed.appended hv (by decide) hr hbw.size (Nat.le_refl _) hown' hg3
         obtain ⟨g, cap, rfl⟩ := ownsRow_succ hown'
         have c1 := hv1.cell
         have f1 := hv1.frozen
         go_frame)
      | fail)
    have zz := hbb.size
    refine ⟨hko.from _, hko.walks, ⟨⟨_, hv2, ?_, trivial⟩, hbw.trans hbb, by omega⟩⟩
    rw [List.length_append, List.flatMap_append]
    simpa [cellsP2] using hr2
  case done =>
    rintro D ys W hD hys ⟨⟨v, hv, hr, _⟩, hbw, hWS⟩ hK
    have c0 := hv.cell
    go_wp2_with fail
    refine ⟨by simp, .inl ⟨_, _, rfl, run_takeDeferred hK, ?_⟩⟩
    exact ⟨_, results_tmp rfl _ _ _, v, ys, rfl, hys, ownsRow_putObj hr _ hK rfl, hbw.trans (belowK_b (w := w) (Nat.le_refl _) W D _ _ (by omega) hK rfl rfl)⟩
  case stop => exact fun _ _ _ _ _ _ h _ => h.elim
set_option maxRecDepth 100000 in
theorem collectP_any (w : World) {H : Type} (Bm b nn : Nat) (D0 : DataW H) {R : Value → Option (DataW H × List MemPlace)} (hm : w.cell? ⟨Bm, 0, none⟩ = some (.map (some b))) (hown : w.ownsMap Try.prog 62 R b nn D0) (hN : Maps.size D0 ≤ 1000000) :
    Calls Try.prog 51 #[.func (.func 53) #[] #[.pointer (some ⟨Bm, 0, none⟩)]] w fun e w' =>
      ∃ v ps, e = .returned v ∧ PlcOf D0 ps ∧ w'.ownsRow w.heap.size 62 2 v ps.length (ps.flatMap cellsP2) ∧ Below w.heap.size w w' := by
  have ha := appendP_any w Bm b nn D0 hm hown hN
  clear hm hown
  go_enter Try.func51, Try.ntmps51
  go_wp2_with fail
  refine ha.mono ?_
  rintro e w' ⟨v, ps, rfl, h1, h2, h3⟩
  clear ha
  obtain ⟨a, c, rfl⟩ : ∃ a c, v = .slice a ps.length c := by
    rcases h2.2 with ⟨rfl, h0⟩ | ⟨g, cap, cur, rfl, _⟩
    · rw [h0]; exact ⟨none, 0, rfl⟩
    · exact ⟨_, _, rfl⟩
  go_wp2_with fail
  go_ret
  exact ⟨_, ps, rfl, h1, h2, h3⟩
end Go.Proofs.Ytjbdkhddnblieaa
namespace Go.Proofs.Ytjbdkhddnblieaa
open Go.Shelf
set_option maxRecDepth 100000
def sortRen : Ren := ⟨fun | 6 => 52 | 15 => 64 | 14 => 63 | 28 => 78 | 29 => 79 | 20 => 70 | 21 => 71 | 22 => 72 | 23 => 73 | 24 => 74 | 25 => 75 | 26 => 76 | 27 => 77 | 46 => 82 | 47 => 83 | 48 => 84 | 49 => 85 | 50 => 86 | 57 => 88 | n => n, fun | 22 => 68 | 24 => 62 | 25 => 73 | 3 => 3 | 39 => 50 | 0 => 0 | 53 => 49 | 55 => 109 | 4 => 4 | 46 => 102 | 45 => 101 | 50 => 90 | 5 => 5 | 9 => 9 | 66 => 110 | 70 => 114 | 76 => 117 | 77 => 118 | n => n, fun n => n⟩
theorem sortLaid : SlLaysF0.n6 Try.prog sortRen where
  mixed := by kernel_rfl
  f6 := ⟨ "slices.SortFunc[[]banksman/delta.place,banksman/delta.place]", by decide, Try.func52.trans (congrArg some (by kernel_rfl))⟩
  f14 := ⟨ "slices.pdqsortCmpFunc[banksman/delta.place]", by decide, Try.func63.trans (congrArg some (by kernel_rfl))⟩
  f15 := Try.func64.trans (congrArg some (by kernel_rfl))
  f20 := ⟨ "slices.insertionSortCmpFunc[banksman/delta.place]", by decide, Try.func70.trans (congrArg some (by kernel_rfl))⟩
  f21 := ⟨ "slices.heapSortCmpFunc[banksman/delta.place]", by decide, Try.func71.trans (congrArg some (by kernel_rfl))⟩
  f22 := ⟨ "slices.breakPatternsCmpFunc[banksman/delta.place]", by decide, Try.func72.trans (congrArg some (by kernel_rfl))⟩
  f23 := ⟨ "slices.choosePivotCmpFunc[banksman/delta.place]", by decide, Try.func73.trans (congrArg some (by kernel_rfl))⟩
  f24 := ⟨ "slices.reverseRangeCmpFunc[banksman/delta.place]", by decide, Try.func74.trans (congrArg some (by kernel_rfl))⟩
  f25 := ⟨ "slices.partialInsertionSortCmpFunc[banksman/delta.place]", by decide, Try.func75.trans (congrArg some (by kernel_rfl))⟩
  f26 := ⟨ "slices.partitionEqualCmpFunc[banksman/delta.place]", by decide, Try.func76.trans (congrArg some (by kernel_rfl))⟩
  f27 := ⟨ "slices.partitionCmpFunc[banksman/delta.place]", by decide, Try.func77.trans (congrArg some (by kernel_rfl))⟩
  f28 := Try.func78.trans (congrArg some (by kernel_rfl))
  f29 := Try.func79.trans (congrArg some (by kernel_rfl))
  f46 := ⟨ "slices.siftDownCmpFunc[banksman/delta.place]", by decide, Try.func82.trans (congrArg some (by kernel_rfl))⟩
  f47 := Try.func83.trans (congrArg some (by kernel_rfl))
  f48 := Try.func84.trans (congrArg some (by kernel_rfl))
  f49 := ⟨ "slices.medianAdjacentCmpFunc[banksman/delta.place]", by decide, Try.func85.trans (congrArg some (by kernel_rfl))⟩
  f50 := ⟨ "slices.medianCmpFunc[banksman/delta.place]", by decide, Try.func86.trans (congrArg some (by kernel_rfl))⟩
  f57 := ⟨ "slices.order2CmpFunc[banksman/delta.place]", by decide, Try.func88.trans (congrArg some (by kernel_rfl))⟩
  t0 := Try.underlying0
  a0 := Try.isAgg0
  z0 := Try.sizeOf0
  v0 := Try.zeroValue0
  t3 := Try.underlying3
  a3 := Try.isAgg3
  z3 := Try.sizeOf3
  v3 := Try.zeroValue3
  t4 := Try.underlying4
  a4 := Try.isAgg4
  z4 := Try.sizeOf4
  v4 := Try.zeroValue4
  t5 := Try.underlying5
  a5 := Try.isAgg5
  z5 := Try.sizeOf5
  v5 := Try.zeroValue5
  t9 := Try.underlying9
  a9 := Try.isAgg9
  z9 := Try.sizeOf9
  v9 := Try.zeroValue9
  t22 := Try.underlying68
  a22 := Try.isAgg68
  z22 := Try.sizeOf68
  v22 := Try.zeroValue68
  t25 := Try.underlying73
  a25 := Try.isAgg73
  z25 := Try.sizeOf73
  v25 := Try.zeroValue73
  t39 := Try.underlying50
  a39 := Try.isAgg50
  z39 := Try.sizeOf50
  v39 := Try.zeroValue50
  t45 := Try.underlying101
  a45 := Try.isAgg101
  z45 := Try.sizeOf101
  v45 := Try.zeroValue101
  t46 := Try.underlying102
  a46 := Try.isAgg102
  z46 := Try.sizeOf102
  v46 := Try.zeroValue102
  t50 := Try.underlying90
  a50 := Try.isAgg90
  z50 := Try.sizeOf90
  v50 := Try.zeroValue90
  t53 := Try.underlying49
  a53 := Try.isAgg49
  z53 := Try.sizeOf49
  v53 := Try.zeroValue49
  t55 := Try.underlying109
  a55 := Try.isAgg109
  z55 := Try.sizeOf109
  v55 := Try.zeroValue109
  t66 := Try.underlying110
  a66 := Try.isAgg110
  z66 := Try.sizeOf110
  v66 := Try.zeroValue110
  t70 := Try.underlying114
  a70 := Try.isAgg114
  z70 := Try.sizeOf114
  v70 := Try.zeroValue114
  t76 := Try.underlying117
  a76 := Try.isAgg117
  z76 := Try.sizeOf117
  v76 := Try.zeroValue117
  t77 := Try.underlying118
  a77 := Try.isAgg118
  z77 := Try.sizeOf118
  v77 := Try.zeroValue118
end Go.Proofs.Ytjbdkhddnblieaa
namespace Go.Proofs.Ytjbdkhddnblieaa
open Go.RowKit Go.Shelf Go.Lib Go.Sort
def cmpI (x y : Int) : Int := if x < y then -1 else if y < x then 1 else 0
def cmpP (x y : Plc) : Int := if x.table = y.table then Lib.compareBytes x.key y.key else cmpI x.table y.table
set_option maxRecDepth 100000 in
theorem cmpInt_any (w : World) (x y : Int) : Calls Try.prog 55 #[.int .i64 x, .int .i64 y] w fun e w' => e = .returned (.int .i64 (cmpI x y)) ∧ w' = w := by
  by_cases h : x < y
  · have d1 : decide (x < y) = true := decide_eq_true h
    have e : cmpI x y = -1 := if_pos h
    rw [e]
    clear h e
    go_enter Try.func55, Try.ntmps55
    go_wp2
    go_ret
    exact ⟨rfl, rfl⟩
  · have d1 : decide (x < y) = false := decide_eq_false h
    by_cases h2 : y < x
    · have d2 : decide (y < x) = true := decide_eq_true h2
      have e : cmpI x y = 1 := by unfold cmpI; rw [if_neg h, if_pos h2]
      rw [e]
      clear h h2 e
      go_enter Try.func55, Try.ntmps55
      go_wp2
      go_ret
      exact ⟨rfl, rfl⟩
    · have d2 : decide (y < x) = false := decide_eq_false h2
      have e : cmpI x y = 0 := by unfold cmpI; rw [if_neg h, if_neg h2]
      rw [e]
      clear h h2 e
      go_enter Try.func55, Try.ntmps55
      go_wp2
      go_ret
      exact ⟨rfl, rfl⟩
set_option maxRecDepth 100000 in
theorem cmpStr_any (w : World) (x y : List UInt8) : Calls Try.prog 56 #[.string (strOf x), .string (strOf y)] w fun e w' => e = .returned (.int .i64 (Lib.compareBytes x y)) ∧ w' = w := by
  have hc : (callFunc 80 #[.string (strOf x), .string (strOf y)]).run Try.prog w = .ok (.value (.int .i64 (Lib.compareBytes x y))) w := by
    rw [run_callFunc_extern Try.func80 (by kernel_rfl) (by kernel_rfl) (by kernel_rfl) (e := Extern.BytealgCompare.compare) (by kernel_rfl), run_compareString, show (strOf x).data.toList = x by simp [strOf], show (strOf y).data.toList = y by simp [strOf]]
    rfl
  go_enter Try.func56, Try.ntmps56
  go_wp2
  go_ret
  exact ⟨rfl, rfl⟩
set_option maxRecDepth 100000 in
theorem cmpOr_any (w : World) {b : Nat} {x y : Int} {t : TypeId} (h : w.heap[b]? = some (.cells #[.int .i64 x, .int .i64 y] t (0, 0))) : Calls Try.prog 54 #[.slice (some ⟨b, 0, none⟩) 2 2] w fun e w' => e = .returned (.int .i64 (if x = 0 then y else x)) ∧ w' = w := by
  have c0 : w.cell? ⟨b, 0, none⟩ = some (.int .i64 x) := by simp [World.cell?, h]
  have c1 : w.cell? ⟨b, 1, none⟩ = some (.int .i64 y) := by simp [World.cell?, h]
  clear h
  obtain ⟨r, hr⟩ : ∃ r, r = (if x = 0 then y else x) := ⟨_, rfl⟩
  rw [← hr]
  replace hr := Lib.hid hr
  go_enter Try.func54, Try.ntmps54
  go_upto_region 3 with (fail)
  go_loopw [8] (fun iv wr => ∃ i : Nat, iv = .int .i64 (i : Int) ∧ i ≤ 2 ∧ RowKit.Hid ((0 < i → x = 0) ∧ (1 < i → y = 0)) ∧ wr = w) (fun i _ => 2 - (intOf i).toNat)
  case atStart => exact ⟨0, rfl, by omega, Lib.hid ⟨fun h => absurd h (by omega), fun h => absurd h (by omega)⟩, rfl⟩
  case round =>
    obtain ⟨i, rfl, hil, hno, rfl⟩ := hrel
    rcases (show i = 0 ∨ i = 1 ∨ i = 2 by omega) with rfl | rfl | rfl
    · by_cases hx : x = 0
      · have d1 : (x == 0) = true := beq_iff_eq.2 hx
        have d2 : (x != 0) = false := bne_eq_false_iff_eq.2 hx
        have H := Lib.hid (show (0 < 0 + 1 → x = 0) ∧ (1 < 0 + 1 → y = 0) from ⟨fun _ => hx, fun h => absurd h (by omega)⟩)
        clear hx hno
        go_wp2_with fail
        go_roundw
        case rel => exact ⟨1, rfl, by omega, H, trivial⟩
        case measure => simp [intOf]
      · have d1 : (x == 0) = false := beq_eq_false_iff_ne.2 hx
        have d2 : (x != 0) = true := bne_iff_ne.2 hx
        have H := Lib.hid (show r = x from hr.out.trans (if_neg hx))
        clear hx hno
        go_wp2_with fail
        go_ret
        exact ⟨by rw [H.out]; rfl, rfl⟩
    · have hx := hno.out.1 (by omega)
      by_cases hy : y = 0
      · have d1 : (y == 0) = true := beq_iff_eq.2 hy
        have d2 : (y != 0) = false := bne_eq_false_iff_eq.2 hy
        have H := Lib.hid (show (0 < 1 + 1 → x = 0) ∧ (1 < 1 + 1 → y = 0) from ⟨fun _ => hx, fun _ => hy⟩)
        clear hx hy hno
        go_wp2_with fail
        go_roundw
        case rel => exact ⟨2, rfl, by omega, H, trivial⟩
        case measure => simp [intOf]
      · have d1 : (y == 0) = false := beq_eq_false_iff_ne.2 hy
        have d2 : (y != 0) = true := bne_iff_ne.2 hy
        have H := Lib.hid (show r = y from hr.out.trans (if_pos hx))
        clear hx hy hno
        go_wp2_with fail
        go_ret
        exact ⟨by rw [H.out]; rfl, rfl⟩
    · have H := Lib.hid (show r = 0 from hr.out.trans (by rw [if_pos (hno.out.1 (by omega))]; exact hno.out.2 (by omega)))
      clear hno
      go_wp2_with fail
      go_ret
      exact ⟨by rw [H.out]; rfl, rfl⟩
theorem cmpP_or (x y : Plc) : (if cmpI x.table y.table = 0 then Lib.compareBytes x.key y.key else cmpI x.table y.table) = cmpP x y := by
  unfold cmpP cmpI
  by_cases h : x.table = y.table
  · simp [h]
  · rw [if_neg h]
    by_cases h1 : x.table < y.table
    · simp [h1]
    · have h2 : y.table < x.table := by omega
      simp [h1, h2]
set_option maxRecDepth 100000 in
set_option maxHeartbeats 4000000 in
theorem compareP_any (w : World) (x y : Plc) : Calls Try.prog 41 #[.agg #[.int .i64 x.table, .string (strOf x.key)], .agg #[.int .i64 y.table, .string (strOf y.key)]] w fun e w' => e = .returned (.int .i64 (cmpP x y)) ∧ ∃ q os, w' = grow (w.drewN q) os := by
  obtain ⟨r, hr⟩ : ∃ r, r = cmpP x y := ⟨_, rfl⟩
  rw [← hr]
  replace hr := Lib.hid hr
  obtain ⟨W, hW, q, bn, bm, hsz⟩ := boxes2 w 62 62 [.int .i64 x.table, .string (strOf x.key)] [.int .i64 y.table, .string (strOf y.key)]
  clear hsz q
  go_enter Try.func41, Try.ntmps41
  go_upto_region 1 with (fail)
  rw [show (w.alloc (.cells #[.int .i64 x.table, .string (strOf x.key)] 62)).alloc (.cells #[.int .i64 y.table, .string (strOf y.key)] 62) = W from hW.symm]
  replace hW := Lib.hid hW
  have b0 := bn.cell (i := 0) rfl
  have b1 := bn.cell (i := 1) rfl
  have f0 := bm.cell (i := 0) rfl
  have f1 := bm.cell (i := 1) rfl
  refine wp_region_still_tail 10 (by kernel_rfl) (by kernel_rfl) ?_
  simp only [List.take_succ_cons, List.take_zero, List.drop_succ_cons, List.drop_zero]
  repeat still_step
  still_call (cmpInt_any _ _ _)
  repeat still_step
  still_call (cmpStr_any _ _ _)
  repeat still_step
  refine wpStill_nil ?_
  clear b0 b1 f0 f1 bn bm
  have hor := cmpP_or x y
  change wpList _ _ _ _ _ W.drew
  obtain ⟨W2, hW2⟩ : ∃ W2, W2 = W.drew := ⟨_, rfl⟩
  rw [← hW2]
  replace hW2 := Lib.hid hW2
  generalize cmpI x.table y.table = c1 at *
  generalize Lib.compareBytes x.key y.key = c2 at *
  replace hor := Lib.hid (hor.trans hr.out.symm)
  go_wp2_with fail
  refine (cmpOr_any (W2.alloc (.cells #[.int .i64 c1, .int .i64 c2] 3)) (x := c1) (y := c2) (t := 3) (by simp only [World.alloc, Array.getElem?_push_size])).mono ?_
  rintro e w3 ⟨rfl, rfl⟩
  rw [hor.out]
  go_wp2_with fail
  go_ret
  have hfin : W2.alloc (.cells #[.int .i64 c1, .int .i64 c2] 3) = grow (w.drewN 1) (#[.cells #[.int .i64 x.table, .string (strOf x.key)] 62 (0, 0)] ++ (#[.cells #[.int .i64 y.table, .string (strOf y.key)] 62 (0, 0)] ++ #[.cells #[.int .i64 c1, .int .i64 c2] 3 (0, 0)])) := by
    rw [hW2.out, hW.out]
    show (((w.drewN 1).alloc (.cells #[.int .i64 x.table, .string (strOf x.key)] 62)).alloc (.cells #[.int .i64 y.table, .string (strOf y.key)] 62)).alloc (.cells #[.int .i64 c1, .int .i64 c2] 3) = _
    rw [alloc_eq_grow, alloc_eq_grow, alloc_eq_grow, grow_grow, grow_grow]
  exact ⟨rfl, 1, _, hfin⟩
end Go.Proofs.Ytjbdkhddnblieaa
namespace Go.Proofs.Ytjbdkhddnblieaa
open Go.RowKit Go.Shelf Go.Maps Go.Sort
instance : Inhabited Plc := ⟨⟨0, []⟩⟩
theorem ltOf_cmpP : ltOf cmpP = ltP := by
  funext x y
  unfold ltOf cmpP ltP
  by_cases h : x.table = y.table
  · rw [if_pos h, cmp_lt]; simp [h]
  · rw [if_neg h]
    unfold cmpI
    by_cases h2 : x.table < y.table
    · simp [h2]
    · rw [if_neg h2]; split <;> simp [h, h2]
theorem swoP : SWO (ltOf cmpP) := by
  rw [ltOf_cmpP]
  refine ⟨totP.irr, fun _ _ _ h k => totP.tr h k, fun x y z h k => ?_⟩
  cases e : ltP x z with
  | false => rfl
  | true =>
    by_cases hxy : x = y
    · subst hxy; rw [k] at e; cases e
    · have := totP.tr (totP.tot hxy h) e
      rw [this] at k; cases k
theorem flat2_get : ∀ (ps : List Plc) (t : Nat), (ps.flatMap cellsP2)[t]? = (ps[t / 2]?).bind fun p => (cellsP2 p)[t % 2]?
  | [], t => by simp
  | p :: ps, 0 => by simp [cellsP2]
  | p :: ps, 1 => by simp [cellsP2]
  | p :: ps, t + 2 => by
    have h := flat2_get ps t
    rw [show (t + 2) / 2 = t / 2 + 1 by omega, show (t + 2) % 2 = t % 2 by omega, List.getElem?_cons_succ, ← h, List.flatMap_cons]
    simp [cellsP2]
theorem flat2_len (ps : List Plc) : (ps.flatMap cellsP2).length = ps.length * 2 := by
  induction ps with
  | nil => rfl
  | cons p ps ih => rw [List.flatMap_cons, List.length_append, ih, List.length_cons]; simp [cellsP2]; omega
theorem flatK_plc (ps : List Plc) : flatK cellsP2 2 ps.toArray = (ps.flatMap cellsP2).toArray := by
  refine Array.ext (by rw [size_flatK, List.size_toArray, List.size_toArray, flat2_len]) fun t h1 h2 => ?_
  have ht : t < ps.length * 2 := by simpa using h1
  have hq : t / 2 < ps.length := by omega
  have hg := flat2_get ps t
  rw [List.getElem?_eq_getElem hq, Option.bind_some] at hg
  have h3 : t % 2 < (cellsP2 ps[t / 2]).length := by simp [cellsP2]; omega
  rw [List.getElem?_eq_getElem h3, List.getElem?_eq_getElem (by rw [flat2_len]; exact ht)] at hg
  injection hg with hg
  simp only [List.getElem_toArray, hg]
  simp [flatK, hq, h3]
theorem holdsP {w : World} {g : Nat} {cur : Array Value} {e : TypeId} {ps : List Plc} (hb : w.heap[g]? = some (.cells cur e (0, 0))) (ht : cur.toList.take (ps.length * 2) = ps.flatMap cellsP2) : HoldsK cellsP2 2 w g 0 ps.toArray := by
  unfold HoldsK
  rw [flatK_plc]
  intro j hj
  have hj' : j < ps.length * 2 := by rw [List.size_toArray, flat2_len] at hj; exact hj
  refine ⟨?_, by simp [World.frozen?, hb]⟩
  have h1 : (cur.toList.take (ps.length * 2))[j]? = (ps.flatMap cellsP2)[j]? := by rw [ht]
  rw [List.getElem?_take_of_lt hj'] at h1
  simp only [World.cell?, hb, Nat.zero_add]
  simp only [Option.isSome_none, Bool.false_eq_true, if_false]
  rw [← Array.getElem?_toList, h1]
  have hl : j < (ps.flatMap cellsP2).length := by rw [flat2_len]; exact hj'
  rw [List.getElem?_eq_getElem hl, getElem!_pos _ j (by simpa using hj)]
  rfl
theorem heapP_sorted {w : World} {g n : Nat} {os : Array Obj} {cur : Array Value} {e : TypeId} {fr : Nat × Nat} (d : Array Plc) (hb : w.heap[g]? = some (.cells cur e fr)) :
    (sortWorldK cellsP2 2 w g 0 n d os).heap[g]? = some (.cells (putCells id 0 (flatK cellsP2 2 d) cur) e fr) := by
  have hg : g < w.heap.size := (Array.getElem?_eq_some_iff.1 hb).1
  unfold sortWorldK putRowK
  rw [heap_grow_old _ _ (by simpa using hg)]
  simp [putRow, mapBlock, Sort.ahead, Array.getElem?_modify, hb, onCells]
theorem grownByP_sorted {w : World} {g n : Nat} {os : Array Obj} (d : Array Plc) : w.grownBy (sortWorldK cellsP2 2 w g 0 n d os) (some g) := by
  unfold sortWorldK putRowK
  refine ⟨rfl, rfl, rfl, by simp, fun k hk hne => ?_⟩
  rw [heap_grow_old _ _ (by simpa using hk)]
  have : g ≠ k := fun e => hne (by rw [e])
  simp [putRow, mapBlock, Sort.ahead, Array.getElem?_modify, this]
theorem takeP (cur : Array Value) (vs : List Value) (h : vs.length ≤ cur.size) : (putCells id 0 vs.toArray cur).toList.take vs.length = vs := by
  apply List.ext_getElem?
  intro j
  by_cases hj : j < vs.length
  · rw [List.getElem?_take_of_lt hj, Array.getElem?_toList]
    simp [putCells, hj, show j < cur.size by omega]
  · rw [List.getElem?_take_eq_none (by omega), List.getElem?_eq_none (by omega)]
def sortPl (ps : List Plc) : List Plc := ps.mergeSort fun x y => !ltP y x
theorem sortPl_perm (ps : List Plc) : (sortPl ps).Perm ps := List.mergeSort_perm _ _
theorem sortPl_srt {ps : List Plc} (h : ps.Nodup) : SrtE ltP id (sortPl ps) := by
  have hn : (sortPl ps).Nodup := (sortPl_perm ps).nodup_iff.2 h
  have hs : (sortPl ps).Pairwise (fun x y => (!ltP y x) = true) := List.pairwise_mergeSort (fun a b c h k => by
    simp only [Bool.not_eq_true'] at h k ⊢
    have := swoP.ntrans c b a (by rw [ltOf_cmpP]; exact k) (by rw [ltOf_cmpP]; exact h)
    rwa [ltOf_cmpP] at this) (fun a b => by
    cases e : ltP b a with
    | false => simp
    | true =>
      have : ltP a b = false := by
        cases e2 : ltP a b with
        | false => rfl
        | true => have := totP.tr e e2; rw [totP.irr] at this; cases this
      simp [this]) ps
  refine (hs.and hn).imp fun {a b} hab => ?_
  exact totP.tot (fun e => hab.2 e.symm) (by simpa using hab.1)
set_option maxRecDepth 100000 in
theorem sortP_any (w : World) {base : Nat} {v : Value} {ps : List Plc} (h : w.ownsRow base 62 2 v ps.length (ps.flatMap cellsP2)) (hn : ps.length ≤ 1000000) :
    Calls Try.prog 52 #[v, .func (.func 41) #[] #[]] w fun e w' => e = .returned (.tuple #[]) ∧ w'.ownsRow base 62 2 v ps.length ((sortPl ps).flatMap cellsP2) ∧ w.grownBy w' v.ownBlock := by
  have hl := h.1
  rcases h.2 with ⟨rfl, h0⟩ | ⟨g, cap, cur, rfl, hbase, hb, h1, h2, h3, h4⟩
  · obtain rfl : ps = [] := List.length_eq_zero_iff.1 h0
    refine (AnyF.slices_SortFunc_none sortLaid none 0 (.func (.func 41) #[] #[]) w).mono ?_
    rintro e w' ⟨rfl, rfl⟩
    exact ⟨rfl, ⟨by rw [flat2_len, (sortPl_perm []).length_eq], .inl ⟨rfl, rfl⟩⟩, rfl, rfl, rfl, Nat.le_refl _, fun _ _ _ => rfl⟩
  · have hc : CmpLays Try.prog 41 #[] cellsP2 2 cmpP g 0 ps.toArray.size w := fun m os dk hs x y => by
      rw [Array.append_empty]
      exact compareP_any _ x y
    have hs := AnyQ.slices_SortFunc_total sortLaid 2 Try.isAgg62 Try.sizeOf62 cellsP2 (fun _ => rfl) (fun x v hv => by simp [cellsP2] at hv; rcases hv with rfl | rfl <;> rfl) cmpP swoP 41 #[] g 0 cap ps.toArray w (enters_of Try.func41 (by kernel_rfl) rfl) hc (holdsP hb h4) (Array.getElem?_eq_some_iff.1 hb).1 (by simp; omega)
      (fun x y h k => by
        rw [ltOf_cmpP] at h k
        by_cases e : x = y
        · exact e
        · have := totP.tot e h; rw [this] at k; cases k)
    refine hs.mono ?_
    rintro e w' ⟨rfl, n, os, rfl⟩
    rw [ltOf_cmpP]
    have hp : (ps.toArray.toList.mergeSort fun x y => !ltP y x) = sortPl ps := rfl
    rw [hp]
    have hlen : (sortPl ps).length = ps.length := (sortPl_perm ps).length_eq
    refine ⟨rfl, ⟨by rw [flat2_len, hlen], .inr ⟨g, cap, _, rfl, hbase, heapP_sorted _ hb, h1, h2, by simp [putCells, h3], ?_⟩⟩, grownByP_sorted _⟩
    rw [flatK_plc, ← hlen, ← flat2_len]
    exact takeP cur _ (by rw [flat2_len, hlen, h3]; exact Nat.mul_le_mul_right 2 h1)
def PlcS {H : Type} (D0 : DataW H) (qs : List Plc) : Prop := SrtE ltP id qs ∧ (∀ p ∈ qs, wfP p) ∧ (∀ p, wfP p → (p ∈ qs ↔ has D0 (klP p) = true)) ∧ qs.length ≤ Maps.size D0
theorem PlcOf.sorted {H : Type} {D0 : DataW H} {ps : List Plc} (h : PlcOf D0 ps) : PlcS D0 (sortPl ps) :=
  ⟨sortPl_srt h.1, fun p hp => h.2.1 p ((sortPl_perm ps).mem_iff.1 hp), fun p hp => by rw [(sortPl_perm ps).mem_iff]; exact h.2.2.1 p hp, by rw [(sortPl_perm ps).length_eq]; exact h.2.2.2⟩
set_option maxRecDepth 100000 in
theorem sortedP_any (w : World) {H : Type} (Bm b nn : Nat) (D0 : DataW H) {R : Value → Option (DataW H × List MemPlace)} (hm : w.cell? ⟨Bm, 0, none⟩ = some (.map (some b))) (hown : w.ownsMap Try.prog 62 R b nn D0) (hN : Maps.size D0 ≤ 1000000) :
    Calls Try.prog 39 #[.func (.func 53) #[] #[.pointer (some ⟨Bm, 0, none⟩)], .func (.func 41) #[] #[]] w fun e w' =>
      ∃ v qs, e = .returned v ∧ PlcS D0 qs ∧ w'.ownsRow w.heap.size 62 2 v qs.length (qs.flatMap cellsP2) ∧ Below w.heap.size w w' := by
  have ha := collectP_any w Bm b nn D0 hm hown hN
  clear hm hown
  go_enter Try.func39, Try.ntmps39
  go_wp2_with fail
  refine ha.mono ?_
  rintro e w2 ⟨v, ps, rfl, h1, h2, h3⟩
  clear ha
  have hsz := h3.size
  have hlt := h2.lt
  have hs := sortP_any w2 h2 (Nat.le_trans h1.2.2.2 hN)
  obtain ⟨a, c, rfl⟩ : ∃ a c, v = .slice a ps.length c := by
    rcases h2.2 with ⟨rfl, h0⟩ | ⟨g, cap, cur, rfl, _⟩
    · rw [h0]; exact ⟨none, 0, rfl⟩
    · exact ⟨_, _, rfl⟩
  go_wp2_with fail
  refine hs.mono ?_
  rintro e w3 ⟨rfl, h4, h5⟩
  clear hs
  go_wp2_with fail
  go_ret
  have hlen : (sortPl ps).length = ps.length := (sortPl_perm ps).length_eq
  exact ⟨_, sortPl ps, rfl, h1.sorted, by rw [hlen]; exact h4, h3.grown h5 hsz fun k e => (hlt k e).1⟩
end Go.Proofs.Ytjbdkhddnblieaa
namespace Go.Proofs.Ytjbdkhddnblieaa
open Go.RowKit Go.Shelf Go.Maps
def mapT (ws : List Wr) : Nat → DataW Unit
  | 0 => .map []
  | i + 1 => match ws[i]? with
    | some w => (mapT ws i).put (klP w.plc) (.lit (.int .i64 (i : Nat)))
    | none => mapT ws i
theorem mapT_succ {ws : List Wr} {i : Nat} {w : Wr} (h : ws[i]? = some w) : mapT ws (i + 1) = (mapT ws i).put (klP w.plc) (.lit (.int .i64 (i : Nat))) := by simp only [mapT, h]
theorem mapT_isMap (ws : List Wr) : ∀ i, IsMap (mapT ws i)
  | 0 => isMap_empty
  | i + 1 => by
    unfold mapT
    cases h : ws[i]? with
    | some w => exact (mapT_isMap ws i).put _ _
    | none => exact mapT_isMap ws i
theorem klP_lit (p : Plc) : WideAt.IsKeyLit (klP p) := trivial
def AtT (ws : List Wr) (i : Nat) (p : Plc) : Prop :=
  ((∀ j w, j < i → ws[j]? = some w → w.plc ≠ p) ∧ has (mapT ws i) (klP p) = false) ∨
  ∃ j w, j < i ∧ ws[j]? = some w ∧ w.plc = p ∧ (∀ j' w', j < j' → j' < i → ws[j']? = some w' → w'.plc ≠ p) ∧ has (mapT ws i) (klP p) = true ∧ ∀ z, (mapT ws i).atKey (klP p) z = .lit (.int .i64 (j : Nat))
theorem atT {ws : List Wr} (hw : ∀ w ∈ ws, wfP w.plc) {p : Plc} (hp : wfP p) : ∀ i, i ≤ ws.length → AtT ws i p
  | 0, _ => .inl ⟨fun j w h => by omega, rfl⟩
  | i + 1, hi => by
    obtain ⟨w, hwi⟩ : ∃ w, ws[i]? = some w := ⟨_, List.getElem?_eq_getElem (by omega)⟩
    have hm := mapT_succ hwi
    have hwf := hw w (List.mem_of_getElem? hwi)
    by_cases e : w.plc = p
    · refine .inr ⟨i, w, Nat.lt_succ_self i, hwi, e, fun j' w' h1 h2 => by omega, ?_, fun z => ?_⟩
      · rw [hm, e]; exact has_put_same (mapT_isMap ws i) (klP_lit p) _
      · rw [hm, e]; exact atKey_put_same (mapT_isMap ws i) (klP_lit p) _ z
    · have hne : klP p ≠ klP w.plc := fun h => e (klP_inj hp hwf h).symm
      rcases atT hw hp i (by omega) with ⟨h1, h2⟩ | ⟨j, v, h1, h2, h3, h4, h5, h6⟩
      · refine .inl ⟨fun j v hj hv => ?_, by rw [hm, has_put_other hne]; exact h2⟩
        by_cases ej : j = i
        · subst ej; rw [hwi] at hv; injection hv with hv; subst hv; exact e
        · exact h1 j v (by omega) hv
      · refine .inr ⟨j, v, by omega, h2, h3, fun j' w' a b hv => ?_, by rw [hm, has_put_other hne]; exact h5, fun z => by rw [hm, atKey_put_other hne]; exact h6 z⟩
        by_cases ej : j' = i
        · subst ej; rw [hwi] at hv; injection hv with hv; subst hv; exact e
        · exact h4 j' w' a (by omega) hv
theorem mapT_has {ws : List Wr} (hw : ∀ w ∈ ws, wfP w.plc) {p : Plc} (hp : wfP p) : has (mapT ws ws.length) (klP p) = true ↔ ∃ w ∈ ws, w.plc = p := by
  rcases atT hw hp ws.length (Nat.le_refl _) with ⟨h1, h2⟩ | ⟨j, v, h1, h2, h3, _, h5, _⟩
  · rw [h2]
    constructor
    · intro h; cases h
    · rintro ⟨w, hw, e⟩
      obtain ⟨j, hj, e2⟩ := List.mem_iff_getElem.1 hw
      exact absurd e (h1 j w hj (by rw [List.getElem?_eq_getElem hj, e2]))
  · exact ⟨fun _ => ⟨v, List.mem_of_getElem? h2, h3⟩, fun _ => h5⟩
theorem plcS_last {ws : List Wr} (hw : ∀ w ∈ ws, wfP w.plc) {qs : List Plc} (h : PlcS (mapT ws ws.length) qs) : qs = (lastW ws).map Wr.plc := by
  refine places_last h.1 fun p => ⟨fun hp => (mapT_has hw (h.2.1 p hp)).1 ((h.2.2.1 p (h.2.1 p hp)).1 hp), ?_⟩
  rintro ⟨w, hm, rfl⟩
  exact (h.2.2.1 _ (hw w hm)).2 ((mapT_has hw (hw w hm)).2 ⟨w, hm, rfl⟩)
theorem last_at {ws : List Wr} (hw : ∀ w ∈ ws, wfP w.plc) {k : Nat} (hk : k < (lastW ws).length) : ∃ j : Nat, ws[j]? = some (lastW ws)[k] ∧ ∀ z, (mapT ws ws.length).atKey (klP (lastW ws)[k].plc) z = .lit (.int .i64 (j : Nat)) := by
  have hm := last_mem (List.getElem_mem hk)
  rcases atT hw (hw _ hm) ws.length (Nat.le_refl _) with ⟨h1, _⟩ | ⟨j, v, h1, h2, h3, h4, _, h6⟩
  · obtain ⟨j, hj, e2⟩ := List.mem_iff_getElem.1 hm
    exact absurd rfl (h1 j _ hj (by rw [List.getElem?_eq_getElem hj, e2]))
  · refine ⟨j, ?_, h6⟩
    have hf := findW_last h2 fun j' w' h7 h8 => by rw [h3]; exact h4 j' w' h7 (List.getElem?_eq_some_iff.1 h8).1 h8
    rw [h3, ← last_find, findE_mem totP (last_srt ws) (List.getElem_mem hk)] at hf
    rw [hf]; exact h2
theorem size_le {P : Program} {w : World} {k : TypeId} {R : Value → Option (DataW Unit × List MemPlace)} {b n : Nat} {D : DataW Unit} (h : w.ownsMap P k R b n D) : Maps.size D ≤ n := by
  obtain ⟨es, clock, hb, F, hs, rfl⟩ := h
  show (List.foldr DataW.insert [] _).length ≤ n
  rw [length_sorted]
  simpa using hs
end Go.Proofs.Ytjbdkhddnblieaa
namespace Go.Proofs.Ytjbdkhddnblieaa
open Go.RowKit Go.Shelf Go.Maps
theorem wp_lookupI {H : Type} {P : Program} {k e t : TypeId} {b n : Nat} {D : DataW H} {o : Oper} {a : Act} {w : World} {Kk : Act → World → Prop} {Q : Exit → Act → World → Prop} {m x : Operand} {q : IntKind} {key : Value} {kl : Lit} {c : Int} (hown : w.ownsMap P k (plainElem P e) b n D) (K : Keyed P k) (ht : P.underlying t = some (.map k e)) (he : P.underlying e = some (.int q)) (hz : (zeroValue e).run P w = .ok (.int q 0) w)
    (ho : o.op = .lookup t m x false) (hm : a.eval m = .map (some b)) (hx : a.eval x = key) (hkey : keyOf P k key = some kl) (hc : D.atKey kl (.lit (.int q 0)) = .lit (.int q c)) (h : Kk (a.put o.dst (.int q c)) w) : o.wp P a w Kk Q := by
  obtain ⟨c', hrun, hat, _⟩ := hown.lookup_int K ht he hz hkey
  rw [hc] at hat
  injection hat with hat
  injection hat with _ hat
  subst hat
  unfold Oper.wp
  simp [execOp, ho, hm, hx, hrun, Result.andThen]
  exact h
theorem rowP_at {w : World} {base n c : Nat} {a : Option Addr} {ps : List Plc} (h : w.ownsRow base 62 2 (.slice a n c) n (ps.flatMap cellsP2)) (hn : n = ps.length) {k : Nat} (hk : k < ps.length) : ∃ g, g < w.heap.size ∧ a = some ⟨g, 0, none⟩ ∧ w.cell? ⟨g, k * 2, none⟩ = some (.int .i64 ps[k].table) ∧ w.cell? ⟨g, k * 2 + 1, none⟩ = some (.string (strOf ps[k].key)) := by
  rcases h.2 with ⟨e, h0⟩ | ⟨g, cap, cur, e, _, hb, h1, h2, h3, h4⟩
  · omega
  · injection e with e _ _
    have hc : ∀ j, j < n * 2 → w.cell? ⟨g, j, none⟩ = (ps.flatMap cellsP2)[j]? := fun j hj => by
      have h5 : (cur.toList.take (n * 2))[j]? = (ps.flatMap cellsP2)[j]? := by rw [h4]
      rw [List.getElem?_take_of_lt hj] at h5
      simp only [World.cell?, hb]
      simp only [Option.isSome_none, Bool.false_eq_true, if_false]
      rw [← Array.getElem?_toList, h5]
    refine ⟨g, (Array.getElem?_eq_some_iff.1 hb).1, e, ?_, ?_⟩
    · rw [hc _ (by omega), flat2_get, show k * 2 / 2 = k by omega, show k * 2 % 2 = 0 by omega, List.getElem?_eq_getElem hk]; rfl
    · rw [hc _ (by omega), flat2_get, show (k * 2 + 1) / 2 = k by omega, show (k * 2 + 1) % 2 = 1 by omega, List.getElem?_eq_getElem hk]; rfl
set_option maxRecDepth 100000 in
set_option maxHeartbeats 8000000 in
theorem dLast_any (w : World) {S : Nat → Prop} {v : Value} {d : Dl} (h : RdDl S w v d) : Calls Try.prog 23 #[v] w (WsEnd w (lastD d)) := by
  have hd := h
  obtain ⟨a, c, a2, c2, rfl, hw, hm⟩ := h
  obtain ⟨W0, hW⟩ : ∃ W, W = w.alloc (.cells #[.slice a d.writes.length c, .slice a2 d.marks.length c2] 25) := ⟨_, rfl⟩
  have q : Below w.heap.size w W0 := by rw [hW]; exact (Below.refl _ _).alloc (Nat.le_refl _) _
  have bn : BoxN W0 w.heap.size 25 [.slice a d.writes.length c, .slice a2 d.marks.length c2] := by rw [hW]; exact BoxN.new _ _ _
  have hmm := @run_makeMap Try.prog
  have eA : ∀ args w, (callFunc 31 args).run Try.prog w = .ok (.enter 31 args) w := enters_of Try.func31 (by kernel_rfl) rfl
  go_enter Try.func23, Try.ntmps23
  go_upto_region 1 with (fail)
  rw [← hW]
  clear hW
  have b0 := bn.cell (i := 0) rfl
  have b1 := bn.cell (i := 1) rfl
  go_wp2_with fail
  refine (dCheck_any W0 (hd.below q)).mono ?_
  rintro e w0 ⟨rfl, hb0⟩
  replace q := q.trans (hb0.mono q.size)
  replace bn := bn.below hb0 bn.lt
  clear b0 b1 hb0
  by_cases hok : okD d
  case neg =>
    have dok : decide (okD d) = false := decide_eq_false hok
    have HK := Lib.hid (show lastD d = [] by unfold lastD; rw [if_neg hok])
    clear hok
    go_wp2_with fail
    go_ret
    rw [HK.out]
    exact ⟨none, 0, rfl, OwnL.nil _ _ _ _ _, q⟩
  case pos =>
  have dok : decide (okD d) = true := decide_eq_true hok
  have hl20 : d.writes.length ≤ 20 := hok.1
  have hwf : ∀ x ∈ d.writes, wfP x.plc := fun x hx => by
    obtain ⟨h1, h2, h3, _⟩ := hok.2.2.1 x hx
    exact ⟨by show W64 x.table; unfold W64; omega, by show x.key.length ≤ maxLen; unfold maxLen; omega⟩
  have hsm := Lib.hid hok.2.2.1
  have HK := Lib.hid (show lastD d = lastW d.writes by unfold lastD; rw [if_pos hok])
  replace hok := Lib.hid hok
  go_upto_region 4 with (fail)
  have hown0 := World.ownsMap_made w0 Try.prog 62 (plainElem (H := Unit) Try.prog 3)
  obtain ⟨w1, hw1⟩ : ∃ w1, w1 = w0.alloc (.map #[] 0) := ⟨_, rfl⟩
  rw [← hw1] at hown0 ⊢
  have hb1 : Below w0.heap.size w0 w1 := by rw [hw1]; exact (Below.refl _ _).alloc (Nat.le_refl _) _
  clear hw1 hmm
  obtain ⟨mb, hmb⟩ : ∃ mb, mb = w0.heap.size := ⟨_, rfl⟩
  rw [← hmb] at hown0 ⊢
  have hmw : w.heap.size < mb := by have := bn.lt; omega
  replace bn := bn.below hb1 bn.lt
  replace q := q.trans (hb1.mono q.size)
  clear hb1 hmb
  have b0 := bn.cell (i := 0) rfl
  go_upto_region 5 with (fail)
  clear b0
  go_loopw [16] (fun iv wr => ∃ i : Nat, iv = .int .i64 i ∧ i ≤ d.writes.length ∧ wr.ownsMap Try.prog 62 (plainElem Try.prog 3) mb i (mapT d.writes i) ∧ BoxN wr w.heap.size 25 [.slice a d.writes.length c, .slice a2 d.marks.length c2] ∧ Below w.heap.size w wr)
    (fun i _ => d.writes.length - (intOf i).toNat)
  case atStart => exact ⟨0, rfl, Nat.zero_le _, hown0, bn, q⟩
  case round =>
    clear q bn hown0
    obtain ⟨i, rfl, hil, hown, bn, q⟩ := hrel
    rcases Nat.lt_or_ge i d.writes.length with hlt | hge
    · obtain ⟨ab, ao, XA, XC, XB, XD, rfl, hxb0, x0, x1, x2, x3, hxk, hxv, hxt⟩ := (hw.below q).wr i hlt
      obtain ⟨x, ex⟩ : ∃ x, x = d.writes[i] := ⟨_, rfl⟩
      have hxwf : wfP x.plc := ex ▸ hwf _ (List.getElem_mem hlt)
      have hms := Lib.hid (mapT_succ (List.getElem?_eq_getElem hlt))
      rw [← ex] at x0 x1 x2 x3 hxk hxv hxt hms
      have hkey := keyOf_plc hxwf
      dsimp only [valP] at hkey
      clear ex hxb0
      go_upto_region 7 with (first | (refine wpList_boxNew (vs := [.int .i64 0, .slice none 0 0, .bool false, .slice none 0 0]) (by kernel_rfl) rfl rfl ?_; intro wa hba hBa) | (refine wpList_boxStore (us := [.int .i64 x.table, .slice XA x.key.length XC, .bool x.gone, .slice XB x.val.length XD]) (by kernel_rfl) rfl rfl rfl rfl rfl rfl hBa rfl ?_; intro W3 hgw hX) | fail)
      go_simp
      have hbw : Below wr.heap.size wr W3 := hba.grown hgw hba.size fun k hk => by injection hk with hk; omega
      have q3 := q.trans (hbw.mono q.size)
      have hxw : RdWr S W3 (.agg #[.int .i64 x.table, .slice XA x.key.length XC, .bool x.gone, .slice XB x.val.length XD]) x := RdWr.below ⟨XA, XC, XB, XD, rfl, hxk, hxv, hxt⟩ hbw
      replace bn := bn.below hbw bn.lt
      have hml := hown.lt
      replace hown := hown.kept (grown_bel hbw) (by simp)
      clear x0 x1 x2 x3 hxk hxv hxt hba hBa hgw hbw
      have x0 := hX.cell (i := 0) rfl
      have x1 := hX.cell (i := 1) rfl
      have x2 := hX.cell (i := 2) rfl
      have x3 := hX.cell (i := 3) rfl
      go_wp2_with fail
      refine (placed_any W3 hxw).mono ?_
      rintro e w4 ⟨rfl, hb4⟩
      replace bn := bn.below hb4 bn.lt
      replace hown := hown.kept (grown_bel hb4) (by simp)
      have q4 := q3.trans (hb4.mono q3.size)
      clear x0 x1 x2 x3 hX hxw
      go_wp2_with (first
        | (at_mapUpdate; refine wpList_mapUpdate_own _ rfl _ _ _ 67 rfl 62 3 keyedP Try.underlying67 _ mb i _ rfl hown (by unfold maxLen; omega) _ _ _ rfl rfl hkey _ [] (plainElem_int Try.underlying3 (wf_W64 (by unfold W64; omega))) ?_; intro w5 hown5 hg5)
        | fail)
      go_roundw
      case rel =>
        rw [← hms.out] at hown5
        exact ⟨i + 1, by go_num, by omega, hown5, bn.other hg5 (by simp; omega), q4.grown hg5 q4.size fun k hk => by injection hk with hk; omega⟩
      case measure => simp [intOf]; omega
    · obtain rfl : i = d.writes.length := by omega
      clear hge hil
      have hsz20 := size_le hown
      have b0 := bn.cell (i := 0) rfl
      have hmlt := hown.lt
      go_wp2_with fail
      refine (keysP_any wr mb).mono ?_
      rintro e w4 ⟨rfl, hw4⟩
      have hb4 : Below wr.heap.size wr w4 := by rw [hw4]; exact (Below.refl _ _).alloc (Nat.le_refl _) _
      have hc4 : w4.cell? ⟨wr.heap.size, 0, none⟩ = some (.map (some mb)) := by rw [hw4]; exact (Boxed.new wr _ _).cell
      clear hw4 b0
      replace hown := hown.kept (grown_bel hb4) (by simp)
      replace bn := bn.below hb4 bn.lt
      have q4 := q.trans (hb4.mono q.size)
      have hst := sortedP_any w4 wr.heap.size mb d.writes.length (mapT d.writes d.writes.length) hc4 hown (by omega)
      clear hb4 hc4 q
      go_wp2_with fail
      refine hst.mono ?_
      rintro e w5 ⟨v5, qs, rfl, hqs, hrow, hb5⟩
      clear hst
      have hqe := plcS_last hwf hqs
      clear hqs
      subst hqe
      replace hown := hown.kept (grown_bel hb5) (by simp)
      replace bn := bn.below hb5 bn.lt
      have q5 := q4.trans (hb5.mono q4.size)
      have hml5 := hown.lt
      clear hb5
      obtain ⟨n5, hn5⟩ : ∃ n5, n5 = ((lastW d.writes).map Wr.plc).length := ⟨_, rfl⟩
      have hn5' : n5 = (lastW d.writes).length := by rw [hn5, List.length_map]
      rw [← hn5] at hrow
      obtain ⟨a5, c5, rfl⟩ : ∃ a c, v5 = .slice a n5 c := by
        rcases hrow.2 with ⟨rfl, h0⟩ | ⟨g, cap, cur, rfl, _⟩
        · rw [h0]; exact ⟨none, 0, rfl⟩
        · exact ⟨_, _, rfl⟩
      have hrc := Lib.hid (fun k (hk : k < (lastW d.writes).length) => rowP_at hrow hn5 (k := k) (by rw [List.length_map]; exact hk))
      clear hrow hn5
      replace hn5' := Lib.hid hn5'
      have hl5 : n5 ≤ 20 := by have := last_len d.writes; have := hn5'.out; omega
      go_upto_region 11 with (fail)
      go_loopw [6, 30] (fun ov iv wr => ∃ (k : Nat) (ad : Option Addr) (ko : Nat), iv = .int .i64 k ∧ k ≤ n5 ∧ ov = .slice ad ((lastW d.writes).take k).length ko ∧ OwnL Elt.wr 28 w5.heap.size w5.heap.size wr (.slice ad ((lastW d.writes).take k).length ko) ((lastW d.writes).take k) ∧ Below w5.heap.size w5 wr)
        (fun _ i _ => n5 - (intOf i).toNat)
      case atStart => exact ⟨0, none, 0, rfl, Nat.zero_le _, rfl, OwnL.nil _ _ _ _ _, Below.refl _ _⟩
      case round =>
        obtain ⟨k, ad, ko, rfl, hkl, rfl, hO, q6⟩ := hrel
        rename World => w6
        rcases Nat.lt_or_ge k n5 with hlt | hge
        · have hkL : k < (lastW d.writes).length := by have := hn5'.out; omega
          obtain ⟨g, hg5, ea5, p0, p1⟩ := hrc.out k hkL
          subst ea5
          obtain ⟨j, hj, hat⟩ := last_at hwf hkL
          have hjl : j < d.writes.length := (List.getElem?_eq_some_iff.1 hj).1
          have hyj : d.writes[j] = (lastW d.writes)[k] := (List.getElem?_eq_some_iff.1 hj).2
          obtain ⟨hm1, hm2, hm3, hm4, _⟩ := hsm.out _ (List.getElem_mem hjl)
          have hywf := hwf _ (List.getElem_mem hjl)
          obtain ⟨ab, ao, YA, YC, YB, YD, rfl, hyb, y0, y1, y2, y3, hyk, hyv, hyt⟩ := hw.fit.wr j hjl
          have hsn := Lib.hid (show (lastW d.writes).take (k + 1) = (lastW d.writes).take k ++ [d.writes[j]] by rw [List.take_succ_eq_append_getElem hkL, hyj])
          rw [List.getElem_map, ← hyj] at p0 p1
          rw [← hyj] at hat
          obtain ⟨y, ey⟩ : ∃ y, y = d.writes[j] := ⟨_, rfl⟩
          obtain ⟨xs, exs⟩ : ∃ xs, xs = (lastW d.writes).take k := ⟨_, rfl⟩
          have hxl : xs.length ≤ 20 := by rw [exs, List.length_take]; omega
          rw [← ey] at y0 y1 y2 y3 hyk hyv hyt hm3 hm4 hywf hsn hat p0 p1
          rw [← exs] at hO hsn
          rw [← exs]
          have hkey := keyOf_plc hywf
          dsimp only [valP] at hkey
          simp only [Wr.plc] at p0 p1 hkey
          replace hat := hat (.lit (.int .i64 0))
          clear ey exs hj hyj hm1 hm2 hywf
          replace p0 := (q6.cell (p := ⟨g, _, none⟩) hg5).trans p0
          replace p1 := (q6.cell (p := ⟨g, _, none⟩) hg5).trans p1
          go_upto_region 13 with (first | (refine wpList_boxNew (vs := [.int .i64 0, .string (strOf [])]) (by kernel_rfl) rfl rfl ?_; intro wa hba hBa) | (refine wpList_boxStore (us := [.int .i64 y.table, .string (strOf y.key)]) (by kernel_rfl) rfl rfl rfl rfl rfl rfl hBa rfl ?_; intro W hgw hXW) | fail)
          go_simp
          have hz56 := q6.size
          have hbw : Below w6.heap.size w6 W := hba.grown hgw hba.size fun k hk => by injection hk with hk; omega
          have hzw := hbw.size
          have q7 := q6.trans (hbw.mono q6.size)
          have qW : Below w.heap.size w W := q5.trans (q7.mono q5.size)
          have hbn5 := bn.lt
          have bnW := bn.below q7 bn.lt
          have hownW := hown.kept (grown_bel q7) (by simp)
          have hrr : ∀ k, Value.ownBlock (.slice ad xs.length ko) = some k → w5.heap.size ≤ k ∧ k < w6.heap.size := fun k hk => hO.block_lt k hk
          have hrW : ∀ k, Value.ownBlock (.slice ad xs.length ko) = some k → k < W.heap.size := fun k hk => by have := hrr k hk; omega
          have hS : ∀ k, (fun _ => False) k → some k ≠ Value.ownBlock (.slice ad xs.length ko) := fun _ h => h.elim
          have hrS : ∀ k, Value.ownBlock (.slice ad xs.length ko) = some k → ¬ (S k ∧ k < w.heap.size) := fun k hk h2 => by have := hrr k hk; omega
          have hxr : Value.ownBlock (.slice ad xs.length ko) ≠ some w6.heap.size := fun e => by have := hrr _ e; omega
          have hdr : Value.ownBlock (.slice ad xs.length ko) ≠ some w.heap.size := fun e => by have := hrr _ e; omega
          have hmr : some mb ≠ Value.ownBlock (.slice ad xs.length ko) := fun e => by have := hrr _ e.symm; omega
          have har : some ab ≠ Value.ownBlock (.slice ad xs.length ko) := fun e => by have := hrr _ e.symm; have := hyb.2; omega
          have habW : ab < W.heap.size := by have := qW.size; have := hyb.2; omega
          replace hO := hO.below hbw
          replace y0 := (qW.cell (p := ⟨ab, _, none⟩) hyb.2).trans y0
          replace y1 := (qW.cell (p := ⟨ab, _, none⟩) hyb.2).trans y1
          replace y2 := (qW.cell (p := ⟨ab, _, none⟩) hyb.2).trans y2
          replace y3 := (qW.cell (p := ⟨ab, _, none⟩) hyb.2).trans y3
          replace hyk := hyk.below qW
          replace hyv := hyv.below qW
          have hlo : w5.heap.size ≤ W.heap.size := q7.size
          clear p0 p1 hba hBa hgw hbw hzw hz56 bn hown
          refine wp_region_lnl (K := fun A B => A.grownBy B (Value.ownBlock (.slice ad xs.length ko))) (by kernel_rfl) (by kernel_rfl) [10, 11] (by kernel_rfl) [lEq (.slice ad xs.length ko), lEq (.pointer (some ⟨w.heap.size, 0 + 0, none⟩)), lEq (.slice (some ⟨ab, ao, none⟩) d.writes.length c), lEq (.map (some mb)), lEq (.agg #[.int .i64 y.table, .string (strOf y.key)]), lEq (.int .i64 (j : Nat)), lEq (.pointer (some ⟨ab, ao + j * 4, none⟩)), lEq (.agg #[.int .i64 y.table, .slice YA y.key.length YC, .bool y.gone, .slice YB y.val.length YD]), aElt Elt.wr (W) (Value.ownBlock (.slice ad xs.length ko)) (fun _ => False) (y) hrW hS, aRow Elt.wr 28 (W) (Value.ownBlock (.slice ad xs.length ko)) (fun _ => False) (y) hrW hS, lAny, lAny] (ApJ Elt.wr 28 (w5.heap.size) (w5.heap.size) (Value.ownBlock (.slice ad xs.length ko)) (W) (xs) [y]) ApJ.below (show Below (W).heap.size (W) (W) from Below.refl _ _)
            ⟨?o0, ?o1, ?o2, ?o3, ?o4, ?o5, ?o6, ?o7, ?o8, ?o9, ?o10, ?o11, trivial⟩ ?fin
          case o0 =>
            refine LnOp.side rfl (by kernel_rfl) (fun A va w' k hF hT hk hJ hb hu hp hd => ?_)
            have e1 : A.eval (.tmp 6) = .slice ad xs.length ko := (hT 6 11 (by simp) rfl).trans (hu 1 11 6 (hb 1 11 rfl (by kernel_rfl)) rfl rfl)
            exact BigFrame.wp_move _ rfl ⟨_, rfl, e1, Below.refl _ _⟩
          case o1 =>
            refine LnOp.side rfl (by kernel_rfl) (fun A va w' k hF hT hk hJ hb hu hp hd => ?_)
            have e1 : A.eval (.tmp 1) = .pointer (some ⟨w.heap.size, 0, none⟩) := hF 1 rfl
            exact wp_fieldN dlS rfl (e1) (by omega) ⟨_, rfl, rfl, Below.refl _ _⟩
          case o2 =>
            refine LnOp.side rfl (by kernel_rfl) (fun A va w' k hF hT hk hJ hb hu hp hd => ?_)
            have e1 : A.eval (.tmp 35) = .pointer (some ⟨w.heap.size, 0 + 0, none⟩) := (hT 35 1 (by simp) rfl).trans (hd ⟨1, .data⟩ (by simp) rfl rfl)
            have hJg : (W).grownBy w' (Value.ownBlock (.slice ad xs.length ko)) := ApJ.grown hJ
            exact wp_ld_slice (e := 28) rfl e1 (by kernel_rfl) ((bnW.other hJg hdr).cell (i := 0) rfl) ⟨_, rfl, rfl, Below.refl _ _⟩
          case o3 =>
            refine LnOp.side rfl (by kernel_rfl) (fun A va w' k hF hT hk hJ hb hu hp hd => ?_)
            have e1 : A.eval (.tmp 3) = .map (some mb) := hF 3 rfl
            exact BigFrame.wp_move _ rfl ⟨_, rfl, e1, Below.refl _ _⟩
          case o4 =>
            refine LnOp.side rfl (by kernel_rfl) (fun A va w' k hF hT hk hJ hb hu hp hd => ?_)
            have e1 : A.eval (.tmp 8) = .pointer (some ⟨w6.heap.size, 0, none⟩) := hF 8 rfl
            have hJg : (W).grownBy w' (Value.ownBlock (.slice ad xs.length ko)) := ApJ.grown hJ
            exact wp_load2 plS rfl e1 ((hXW.other hJg hxr).cell (i := 0) rfl) ((hXW.other hJg hxr).cell (i := 1) rfl) ⟨_, rfl, rfl, Below.refl _ _⟩
          case o5 =>
            refine LnOp.side rfl (by kernel_rfl) (fun A va w' k hF hT hk hJ hb hu hp hd => ?_)
            have e1 : A.eval (.tmp 37) = .map (some mb) := (hT 37 3 (by simp) rfl).trans (hd ⟨3, .data⟩ (by simp) rfl rfl)
            have e2 : A.eval (.tmp 38) = .agg #[.int .i64 y.table, .string (strOf y.key)] := (hT 38 4 (by simp) rfl).trans (hd ⟨4, .data⟩ (by simp) rfl rfl)
            have hJg : (W).grownBy w' (Value.ownBlock (.slice ad xs.length ko)) := ApJ.grown hJ
            exact wp_lookupI (hownW.kept hJg hmr) keyedP Try.underlying67 Try.underlying3 (by kernel_rfl) rfl e1 e2 hkey hat ⟨_, rfl, rfl, Below.refl _ _⟩
          case o6 =>
            refine LnOp.side rfl (by kernel_rfl) (fun A va w' k hF hT hk hJ hb hu hp hd => ?_)
            have e1 : A.eval (.tmp 36) = .slice (some ⟨ab, ao, none⟩) d.writes.length c := (hT 36 2 (by simp) rfl).trans (hd ⟨2, .data⟩ (by simp) rfl rfl)
            have e2 : A.eval (.tmp 39) = .int .i64 (j : Nat) := (hT 39 5 (by simp) rfl).trans (hd ⟨5, .data⟩ (by simp) rfl rfl)
            exact wp_ixN (e := 28) rfl (by kernel_rfl) (by kernel_rfl) (e1) (e2) rfl (by omega) ⟨_, rfl, rfl, Below.refl _ _⟩
          case o7 =>
            refine LnOp.side rfl (by kernel_rfl) (fun A va w' k hF hT hk hJ hb hu hp hd => ?_)
            have e1 : A.eval (.tmp 40) = .pointer (some ⟨ab, ao + j * 4, none⟩) := (hT 40 6 (by simp) rfl).trans (hd ⟨6, .data⟩ (by simp) rfl rfl)
            have hJg : (W).grownBy w' (Value.ownBlock (.slice ad xs.length ko)) := ApJ.grown hJ
            have hka : w'.heap[ab]? = W.heap[ab]? := hJg.block ab habW har
            exact wp_load4 wrS rfl e1 ((cell_keep hka _).trans y0) ((cell_keep hka _).trans y1) ((cell_keep hka _).trans y2) ((cell_keep hka _).trans y3) ⟨_, rfl, rfl, Below.refl _ _⟩
          case o8 =>
            refine LnOp.side rfl (by kernel_rfl) (fun A va w' k hF hT hk hJ hb hu hp hd => ?_)
            have e1 : A.eval (.tmp 41) = .agg #[.int .i64 y.table, .slice YA y.key.length YC, .bool y.gone, .slice YB y.val.length YD] := (hT 41 7 (by simp) rfl).trans (hd ⟨7, .data⟩ (by simp) rfl rfl)
            have hJg : (W).grownBy w' (Value.ownBlock (.slice ad xs.length ko)) := ApJ.grown hJ
            refine wp_callFn rfl eA (by simp only [List.map_toArray, List.map_cons, List.map_nil, e1]) ((dAlone_any w' (x := y) ⟨YA, YC, YB, YD, rfl, hyk.grownR hJg hrS, hyv.grownR hJg hrS, hyt⟩ (by omega) (by omega)).mono ?_)
            rintro e w2 ⟨v2, rfl, ⟨ka, kc, va2, vc, rfl, hk2, hv2, ht2⟩, hb2⟩
            exact ⟨_, rfl, _, rfl, ⟨wrC y _ _, rfl, _, _, rfl, hk2.weak (fun k hk => ⟨.inr (Nat.le_trans hJg.size hk.1), hk.2⟩), hv2.weak (fun k hk => ⟨.inr (Nat.le_trans hJg.size hk.1), hk.2⟩), ht2⟩, hb2⟩
          case o9 =>
            refine LnOp.side rfl (by kernel_rfl) (fun A va w' k hF hT hk hJ hb hu hp hd => ?_)
            have x1 : A.eval (.tmp 42) = va 8 := hT 42 8 (by simp) rfl
            have y1 := hd ⟨8, .data⟩ (by simp) rfl rfl
            obtain rfl : k = 0 := by have := hb 0 10 rfl (by kernel_rfl); omega
            have hJ0 : Below (W).heap.size (W) w' := hJ
            obtain ⟨us, eus, hR⟩ : ∃ us : List Value, (va 8).cells = us.toArray ∧ Elt.R Elt.wr (inNew (fun _ => False) (W) w') w' (y) us := y1
            exact wp_buildOne wrP rfl x1 eus (Elt.len _ hR) (by decide) (by decide) ⟨_, rfl, aRow.mk (hr := hrW) (hS := hS) hJ0.size hR, (Below.refl _ _).alloc (Nat.le_refl _) _⟩
          case o10 =>
            refine LnOp.line 0 rfl rfl (fun A va w' hF hT hJ hu hd => ?_)
            have e1 : A.eval (.tmp 34) = .slice ad xs.length ko := (hT 34 0 (by simp) rfl).trans (hd ⟨0, .data⟩ (by simp) rfl rfl)
            have x2 : A.eval (.tmp 43) = va 9 := hT 43 9 (by simp) rfl
            have y2 := hd ⟨9, .data⟩ (by simp) rfl rfl
            exact wp_apv (hr := hrW) (hS := hS) wrP hJ rfl e1 x2 hO rfl y2 (fun _ h => h.elim) hlo hlo (by omega) (fun v' V' h1 h2 => ⟨_, rfl, h1, h2⟩)
          case o11 =>
            refine LnOp.line 1 rfl rfl (fun A va w' hF hT hJ hu hd => ?_)
            have x1 : A.eval (.tmp 44) = va 10 := hT 44 10 (by simp) rfl
            have hJ' : ApJ Elt.wr 28 (w5.heap.size) (w5.heap.size) (Value.ownBlock (.slice ad xs.length ko)) (W) (xs) [y] [va 10, A.eval (.tmp 44)] w' := ⟨fun u hu => by obtain rfl := List.mem_singleton.1 hu; exact x1, hJ.2⟩
            exact BigFrame.wp_assign _ rfl ⟨_, rfl, hJ', grownB (Below.refl _ _) _⟩
          case fin =>
            intro vs1 W9 hJ hG
            obtain ⟨hsame, hg9, ad9, c9, e9, hO9⟩ := hJ
            have ea := hsame _ (List.mem_singleton.2 rfl)
            obtain ⟨L9, hL9⟩ : ∃ L9, L9 = (xs ++ [y]).length := ⟨_, rfl⟩
            rw [← hL9] at e9 hO9
            replace hL9 := Lib.hid hL9
            have g0 : vs1 0 = .slice ad xs.length ko := hG 0 (by decide) rfl
            have g1 : vs1 1 = .pointer (some ⟨w.heap.size, 0 + 0, none⟩) := hG 1 (by decide) rfl
            have g2 : vs1 2 = .slice (some ⟨ab, ao, none⟩) d.writes.length c := hG 2 (by decide) rfl
            have g3 : vs1 3 = .map (some mb) := hG 3 (by decide) rfl
            have g4 : vs1 4 = .agg #[.int .i64 y.table, .string (strOf y.key)] := hG 4 (by decide) rfl
            have g5 : vs1 5 = .int .i64 (j : Nat) := hG 5 (by decide) rfl
            have g6 : vs1 6 = .pointer (some ⟨ab, ao + j * 4, none⟩) := hG 6 (by decide) rfl
            have g7 : vs1 7 = .agg #[.int .i64 y.table, .slice YA y.key.length YC, .bool y.gone, .slice YB y.val.length YD] := hG 7 (by decide) rfl
            clear hG hsame
            simp only [putAll, ea, e9, g0, g1, g2, g3, g4, g5, g6, g7]
            clear ea e9 g0 g1 g2 g3 g4 g5 g6 g7
            go_simp
            have q9 : Below w5.heap.size w5 W9 := q7.grown hg9 q7.size fun k hk => (hrr k hk).1
            clear hXW hO hyk hyv hg9 bnW hownW
            go_wp2_with fail
            go_roundw
            case rel =>
              have e := hL9.out
              rw [← hsn.out] at e hO9
              subst e
              exact ⟨k + 1, ad9, c9, by go_num, by omega, rfl, hO9, q9⟩
            case measure => simp [intOf]; omega
        · have hk5 : k = n5 := by omega
          have hkL := hn5'.out
          rw [List.take_of_length_le (by omega)] at hO
          rw [List.take_of_length_le (by omega)]
          go_wp2_with fail
          go_ret
          rw [WsEnd, HK.out]
          have h5w := q5.size
          exact ⟨_, _, rfl, hO.to h5w h5w, q5.trans (q6.mono q5.size)⟩
end Go.Proofs.Ytjbdkhddnblieaa
namespace Go.Proofs.Ytjbdkhddnblieaa
open Go.RowKit Go.Shelf
set_option maxRecDepth 100000 in
set_option maxHeartbeats 8000000 in
theorem dOver_any (w : World) {S S2 S3 : Nat → Prop} {v v2 : Value} {d : Dl} {x0 : Sp} {aq : Option Addr} {n cq : Nat} {l : List Pq} (h : RdDl S w v d) (hx : RdSp S2 w v2 x0) (hl : RdL Elt.pq S3 w (.slice aq n cq) l) (hs : smQ l) (hn : l.length ≤ 900000) :
    Calls Try.prog 26 #[v, v2, .slice aq n cq] w (PqEnd w (overD d x0 l)) := by
  have hd := h
  obtain ⟨a, c, a2, c2, rfl, hw, hm⟩ := h
  obtain ⟨a', c', a2', c2', rfl, hlo', hhi', hxt⟩ := hx
  replace hlo' := hlo'.fit
  replace hhi' := hhi'.fit
  obtain ⟨rfl, hnc, hcm⟩ := hl.len
  obtain ⟨W0, hW, q, bn, bx, hsz⟩ := boxes2 w 25 39 [.slice a d.writes.length c, .slice a2 d.marks.length c2] [.int .i64 x0.table, .slice a' x0.lo.length c', .slice a2' x0.hi.length c2', .bool x0.isOpen]
  have hsz2 : w.heap.size + 2 ≤ W0.heap.size := by omega
  clear hsz
  go_enter Try.func26, Try.ntmps26
  go_upto_region 1 with (fail)
  rw [show (w.alloc (.cells #[.slice a d.writes.length c, .slice a2 d.marks.length c2] 25)).alloc (.cells #[.int .i64 x0.table, .slice a' x0.lo.length c', .slice a2' x0.hi.length c2', .bool x0.isOpen] 39) = W0 from hW.symm]
  clear hW
  go_wp2_with fail
  refine (dPairs_any W0 (hl.below q) hs).mono ?_
  rintro e w1 ⟨a1, c1, rfl, hO, hb1⟩
  have q1 := q.trans (hb1.mono q.size)
  have z1 := hb1.size
  replace bn := bn.below hb1 bn.lt
  replace bx := bx.below hb1 bx.lt
  clear q hb1
  go_wp2_with fail
  refine (rise_any w1 (hl.below q1)).mono ?_
  rintro e w2 ⟨he, hb2⟩
  have q2 := q1.trans (hb2.mono q1.size)
  have z2 := hb2.size
  have hr0 : ∀ k, Value.ownBlock (.slice a1 l.length c1) = some k → W0.heap.size ≤ k ∧ k < w1.heap.size := fun k hk => hO.block_lt k hk
  replace hO := hO.below hb2
  replace bn := bn.below hb2 bn.lt
  replace bx := bx.below hb2 bx.lt
  clear q1 hb2
  by_cases hsrt : SrtQ l
  case neg =>
    rw [decide_eq_false hsrt] at he
    subst he
    have HK := Lib.hid (show overD d x0 l = l by unfold overD; rw [if_neg hsrt])
    clear hsrt
    go_wp2_with fail
    go_ret
    rw [HK.out]
    exact ⟨_, _, rfl, hO.to (by omega) (by omega), q2⟩
  case pos =>
  rw [decide_eq_true hsrt] at he
  subst he
  replace hsrt := Lib.hid hsrt
  have b0 := bn.cell (i := 0) rfl
  have b1 := bn.cell (i := 1) rfl
  have hla := dLast_any w2 (hd.below q2)
  go_wp2_with fail
  refine hla.mono ?_
  rintro e w3 ⟨la, lc, rfl, hL, hb3⟩
  clear hla b0 b1
  have q3 := q2.trans (hb3.mono q2.size)
  have z3 := hb3.size
  replace hO := hO.below hb3
  replace bx := bx.below hb3 bx.lt
  have hWs : RdL Elt.wr (fun k => w2.heap.size ≤ k ∧ k < w3.heap.size) w3 (.slice la (lastD d).length lc) (lastD d) := hL.rdS fun k hk hl => ⟨by omega, hl⟩
  have hwl : (lastD d).length ≤ 20 := by
    unfold lastD
    split
    · rename_i h; exact Nat.le_trans (last_len _) h.1
    · simp
  obtain ⟨ws, ews⟩ : ∃ ws, ws = lastD d := ⟨_, rfl⟩
  rw [← ews] at hWs hwl
  rw [← ews]
  have HD := Lib.hid (show overD d x0 l = overW x0 ws l by unfold overD; rw [if_pos hsrt.out, ews])
  clear ews hL hb3 q2 bn hd
  obtain ⟨r0, er0⟩ : ∃ r0, r0 = Value.ownBlock (.slice a1 l.length c1) := ⟨_, rfl⟩
  rw [← er0] at hr0
  have hrS : ∀ k, r0 = some k → ¬ (w2.heap.size ≤ k ∧ k < w3.heap.size) := fun k hk h2 => by have := hr0 k hk; omega
  have hrX : ∀ k, r0 = some k → ¬ (S2 k ∧ k < w.heap.size) := fun k hk h2 => by have := hr0 k hk; omega
  have hrB : r0 ≠ some (w.heap.size + 1) := fun e => by have := hr0 _ e; omega
  go_upto_region 5 with (fail)
  go_loopw [7, 19] (fun ov iv wr => ∃ (i : Nat) (ad : Option Addr) (ko : Nat) (cur : List Pq), iv = .int .i64 i ∧ i ≤ ws.length ∧ ov = .slice ad cur.length ko ∧ OwnL Elt.pq 53 W0.heap.size W0.heap.size wr (.slice ad cur.length ko) cur ∧ cur.length ≤ 900000 + i ∧ RowKit.Hid (cur = overW x0 (ws.take i) l ∧ SrtQ cur) ∧ w3.grownBy wr r0 ∧ (Value.ownBlock (.slice ad cur.length ko) = r0 ∨ ∃ k, Value.ownBlock (.slice ad cur.length ko) = some k ∧ w3.heap.size ≤ k))
    (fun _ i _ => ws.length - (intOf i).toNat)
  case atStart => exact ⟨0, a1, c1, l, rfl, Nat.zero_le _, rfl, hO, by omega, Lib.hid ⟨rfl, hsrt.out⟩, grownB (Below.refl _ _) _, .inl er0.symm⟩
  case round =>
    clear hO er0
    obtain ⟨i, ad, ko, cur, rfl, hil, rfl, hO, hcl, hcur, hg, hob⟩ := hrel
    have bxr := bx.other hg hrB
    have hsz3 := hg.size
    have hloR := (hlo'.below q3).grownR hg hrX
    have hhiR := (hhi'.below q3).grownR hg hrX
    rcases Nat.lt_or_ge i ws.length with hlt | hge
    · obtain ⟨ub, uo, KA, KC, VA, VC, rfl, hub, c0, c1, c2, c3, hk1, hk2, hut⟩ := (hWs.grownR hg hrS).wr i hlt
      have htk := Lib.hid (show ws.take (i + 1) = ws.take i ++ [ws[i]] from List.take_succ_eq_append_getElem hlt)
      obtain ⟨u, eu⟩ : ∃ u, u = ws[i] := ⟨_, rfl⟩
      rw [← eu] at c0 c1 c2 c3 hk1 hk2 hut htk
      clear eu hub
      go_upto_region 7 with (first | (refine wpList_boxNew (vs := [.int .i64 0, .slice none 0 0, .bool false, .slice none 0 0]) (by kernel_rfl) rfl rfl ?_; intro wa2 hba hBa) | (refine wpList_boxStore (us := [.int .i64 u.table, .slice KA u.key.length KC, .bool u.gone, .slice VA u.val.length VC]) (by kernel_rfl) rfl rfl rfl rfl rfl rfl hBa rfl ?_; intro W4 hgw hU) | fail)
      go_simp
      have hbw : Below wr.heap.size wr W4 := hba.grown hgw hba.size fun k hk => by injection hk with hk; omega
      have hz4 := hbw.size
      replace bxr := bxr.below hbw bxr.lt
      have huw : RdWr (fun k => w2.heap.size ≤ k ∧ k < w3.heap.size) W4 (.agg #[.int .i64 u.table, .slice KA u.key.length KC, .bool u.gone, .slice VA u.val.length VC]) u := RdWr.below ⟨KA, KC, VA, VC, rfl, hk1, hk2, hut⟩ hbw
      have hxw : RdSp (fun k => S2 k ∧ k < w.heap.size) W4 (.agg #[.int .i64 x0.table, .slice a' x0.lo.length c', .slice a2' x0.hi.length c2', .bool x0.isOpen]) x0 := ⟨a', c', a2', c2', rfl, hloR.below hbw, hhiR.below hbw, hxt⟩
      replace hO := hO.below hbw
      have hg4 := grownT hg (grownB hbw r0)
      clear c0 c1 c2 c3 hba hBa hgw hk1 hk2 hloR hhiR
      have f0 := bxr.cell (i := 0) rfl
      have f1 := bxr.cell (i := 1) rfl
      have f2 := bxr.cell (i := 2) rfl
      have f3 := bxr.cell (i := 3) rfl
      have g0 := hU.cell (i := 0) rfl
      have g1 := hU.cell (i := 1) rfl
      have g2 := hU.cell (i := 2) rfl
      have g3 := hU.cell (i := 3) rfl
      go_wp2_with fail
      refine (in_any W4 huw hxw).mono ?_
      rintro e W5 ⟨rfl, hb5⟩
      have hz5 := hb5.size
      replace hU := hU.below hb5 hU.lt
      replace huw := huw.below hb5
      replace hO := hO.below hb5
      have hg5 := grownT hg4 (grownB hb5 r0)
      clear f0 f1 f2 f3 g0 g1 g2 g3 hxw hb5 hg4 hbw hg bxr
      cases hin : (decide (u.table = x0.table) && inS x0 u.key) with
      | false =>
        have hneg := Lib.hid (show ¬ (u.table = x0.table ∧ inS x0 u.key = true) from fun h => by rw [decide_eq_true h.1, h.2] at hin; cases hin)
        clear hin
        go_wp2_with fail
        go_roundw
        case rel => exact ⟨i + 1, ad, ko, cur, by go_num, by omega, rfl, hO, by omega, Lib.hid ⟨by rw [htk.out, overW_snoc, ← hcur.out.1, stepW, if_neg hneg.out], hcur.out.2⟩, hg5, hob⟩
        case measure => simp [intOf]; omega
      | true =>
        have hpos : u.table = x0.table ∧ inS x0 u.key = true := by
          rw [Bool.and_eq_true, decide_eq_true_eq] at hin; exact hin
        have hstep := Lib.hid (show doneW u cur = overW x0 (ws.take (i + 1)) l by rw [htk.out, overW_snoc, ← hcur.out.1, stepW, if_pos hpos])
        have hds := Lib.hid (done_srt (w := u) hcur.out.2)
        have hdl := done_len u cur
        clear hin hpos
        have g0 := hU.cell (i := 0) rfl
        have g1 := hU.cell (i := 1) rfl
        have g2 := hU.cell (i := 2) rfl
        have g3 := hU.cell (i := 3) rfl
        have hdn := done_any W5 hO hcur.out.2 (by omega) huw (fun k hk => ⟨by omega, by omega, fun e => by
          rcases hob with h1 | ⟨j, h1, h2⟩
          · rw [h1] at e
            exact hrS k e.symm hk
          · rw [h1] at e
            injection e with e
            omega⟩) (by omega)
        go_wp2_with fail
        refine hdn.mono ?_
        rintro e W6 ⟨ad6, c6, rfl, hO6, hg6, hob6⟩
        clear hdn g0 g1 g2 g3
        have hg36 : w3.grownBy W6 r0 := World.grownBy.andThen hg5 hg6 fun j hj => by
          rcases hob with h1 | ⟨k, h1, h2⟩
          · exact .inr (h1.symm.trans hj)
          · rw [h1] at hj
            injection hj with hj
            exact .inl (by omega)
        have hob7 : Value.ownBlock (.slice ad6 (doneW u cur).length c6) = r0 ∨ ∃ k, Value.ownBlock (.slice ad6 (doneW u cur).length c6) = some k ∧ w3.heap.size ≤ k := by
          rcases hob6 with h1 | ⟨k, h1, h2⟩
          · rw [h1]; exact hob
          · exact .inr ⟨k, h1, by omega⟩
        clear hO hob hob6 hg6 hU huw
        go_wp2_with fail
        go_roundw
        case rel => exact ⟨i + 1, ad6, c6, doneW u cur, by go_num, by omega, rfl, hO6, by omega, Lib.hid ⟨hstep.out, hds.out⟩, hg36, hob7⟩
        case measure => simp [intOf]; omega
    · obtain rfl : i = ws.length := by omega
      have hfin := Lib.hid (show cur = overW x0 ws l by have := hcur.out.1; rwa [List.take_length] at this)
      clear hloR hhiR bxr
      go_wp2_with fail
      go_ret
      rw [PqEnd, HD.out, ← hfin.out]
      exact ⟨_, _, rfl, hO.to (by omega) (by omega), q3.grown hg q3.size fun k hk => by have := hr0 k hk; omega⟩
end Go.Proofs.Ytjbdkhddnblieaa
namespace Go.Proofs.Ytjbdkhddnblieaa
open Go.RowKit Go.Shelf
set_option maxRecDepth 100000 in
set_option maxHeartbeats 8000000 in
theorem dMark_any (w : World) {S : Nat → Prop} {v : Value} {d : Dl} (h : RdDl S w v d) (hs : smD d) :
    Calls Try.prog 12 #[v] w (DlEnd w (markD d)) := by
  have hd := h
  obtain ⟨a, c, a2, c2, rfl, hw, hm⟩ := h
  obtain ⟨W0, hW, q, bn, bz, hsz⟩ := boxes2 w 25 25 [.slice a d.writes.length c, .slice a2 d.marks.length c2] [.slice none 0 0, .slice none 0 0]
  have hs1 := hs.1
  have hs2 := hs.2.1
  go_enter Try.func12, Try.ntmps12
  go_upto_region 1 with (fail)
  rw [show (w.alloc (.cells #[.slice a d.writes.length c, .slice a2 d.marks.length c2] 25)).alloc (.cells #[.slice none 0 0, .slice none 0 0] 25) = W0 from hW.symm]
  clear hW
  have b0 := bn.cell (i := 0) rfl
  have b1 := bn.cell (i := 1) rfl
  go_wp2_with fail
  refine (dCopied_any W0 (hd.below q) hs).mono ?_
  rintro e w1 ⟨_, rfl, ⟨wa, wc, ma, mc, M, hM0, hM1, rfl, hOw, hOm, hMm⟩, hb1⟩
  have q1 := q.trans (hb1.mono q.size)
  have z1 := hb1.size
  have hOw0 := hOw.block_lt
  have hOm0 := hOm.block_lt
  replace hOw := hOw.but (b := w1.heap.size) (fun k _ hk => by omega)
  replace bn := bn.below hb1 bn.lt
  replace bz := bz.below hb1 bz.lt
  clear b0 b1
  go_upto_region 2 with (first | (refine wpList_boxNew (vs := [.slice none 0 0, .slice none 0 0]) (by kernel_rfl) rfl rfl ?_; intro w2 hb2 hB2) | (refine wpList_boxStore (us := [.slice wa d.writes.length wc, .slice ma d.marks.length mc]) (by kernel_rfl) rfl rfl rfl rfl rfl rfl hB2 rfl ?_; intro w3 hg3 hBO) | fail)
  go_simp
  have qb3 : Below w1.heap.size w1 w3 := hb2.grown hg3 hb2.size fun k hk => by injection hk with hk; omega
  have zO := hBO.lt
  obtain ⟨BO, eBO⟩ : ∃ BO, BO = w1.heap.size := ⟨_, rfl⟩
  rw [← eBO] at hBO zO hOw0 hOm0 hOw hM1
  rw [← eBO]
  have zBO : W0.heap.size ≤ BO := by omega
  replace q := q1.trans (qb3.mono q1.size)
  replace bn := bn.below qb3 bn.lt
  have hBZ := bz.below qb3 bz.lt
  replace hOw := hOw.below qb3
  replace hOm := hOm.below qb3
  clear hb2 hB2 hg3 qb3 q1 eBO bz hb1 z1
  have b0 := bn.cell (i := 0) rfl
  have b1 := bn.cell (i := 1) rfl
  go_wp2_with fail
  refine (dCheck_any w3 (hd.below q)).mono ?_
  rintro e w4 ⟨rfl, hb4⟩
  replace q := q.trans (hb4.mono q.size)
  replace bn := bn.below hb4 bn.lt
  replace hBO := hBO.below hb4 hBO.lt
  replace hBZ := hBZ.below hb4 hBZ.lt
  replace hOw := hOw.below hb4
  replace hOm := hOm.below hb4
  have z4 := hb4.size
  clear b0 b1 hb4
  by_cases hok : okD d
  · have dok : decide (okD d) = true := decide_eq_true hok
    have b0 := bn.cell (i := 0) rfl
    have b1 := bn.cell (i := 1) rfl
    by_cases hfull : d.marks.length = 4
    · have d20 : ((d.marks.length : Int) == 4) = true := beq_iff_eq.2 (by omega)
      have HK := Lib.hid (show markD d = (d, 80) by unfold markD; rw [if_pos hok, if_pos hfull])
      clear hfull
      have o0 := hBO.cell (i := 0) rfl
      have o1 := hBO.cell (i := 1) rfl
      go_wp2_with (first | (refine wpList_boxStore (us := [.slice wa d.writes.length wc, .slice ma d.marks.length mc]) (by kernel_rfl) rfl rfl rfl rfl rfl rfl hBZ rfl ?_; intro wd hgd hBd) | fail)
      have d0 := hBd.cell (i := 0) rfl
      have d1 := hBd.cell (i := 1) rfl
      obtain ⟨fs, hu, _⟩ := dlS.hu
      refine bodyPost_ret (v := .tuple #[.agg #[.slice wa d.writes.length wc, .slice ma d.marks.length mc], .int .i64 80]) (by simp [results, Try.results12, go_sem, loadVar, isAgg, run_underlying hu, run_sizeOf' dlS.hs, loadCellsFrom, Addr.add, d0, d1]) rfl ?_
      rw [DlEnd, HK.out]
      exact ⟨_, rfl, ⟨wa, wc, ma, mc, rfl, (hOw.unbut.other hgd (by omega) (by omega)).rdS fun k hk hl => ⟨by omega, hl⟩, (hOm.other hgd (by omega) (by omega)).rdS fun k hk hl => ⟨by omega, hl⟩⟩, q.grown hgd q.size fun k e => by injection e with e; omega⟩
    · have d20 : ((d.marks.length : Int) == 4) = false := beq_eq_false_iff_ne.2 (by omega)
      have HK := Lib.hid (show markD d = (⟨d.writes, d.marks ++ [(d.writes.length : Int)]⟩, 0) by unfold markD; rw [if_pos hok, if_neg hfull])
      have o0 := hBO.cell (i := 0) rfl
      have o1 := hBO.cell (i := 1) rfl
      have hap := hOm.apart2 (by decide) hOw
      have hal : Below w4.heap.size w4 (w4.alloc (.cells #[.int .i64 (d.writes.length : Int)] 3)) := (Below.refl _ _).alloc (Nat.le_refl _) _
      have hmr : Value.ownBlock (.slice ma d.marks.length mc) ≠ some BO := fun e => by have := hOm0 _ e; omega
      have hlo : W0.heap.size ≤ w4.heap.size + 1 := by omega
      go_upto_region 7 with (first
        | (at_builtin; refine wpList_appendL (E := Elt.int) (ys := [(d.writes.length : Int)]) inP rfl rfl rfl (hOm.below hal) rfl (cells_new w4 [.int .i64 (d.writes.length : Int)] 3) (Flat.single (E := Elt.int) (S := fun _ => False) ⟨rfl, by unfold W64; omega⟩) (fun k hk => hk.elim) (by simp; omega) ?_ (by simp; omega); intro ad9 L9 c9 w6 hO9 hg6 h36)
        | (refine wpList_boxSet (j := 1) rfl rfl rfl (by kernel_rfl) rfl rfl rfl rfl ((hBO.below hal hBO.lt).other hg6 hmr) (by simp) ?_; intro w7 hg7 hB7)
        | fail)
      go_simp
      have hL := hO9.len
      subst hL
      have hr6 : ∀ g, Value.ownBlock (.slice ma d.marks.length mc) = some g → W0.heap.size ≤ g ∧ g < M ∧ g < BO := fun g hg => by have := hOm0 g hg; have := hMm g hg; omega
      have hsz4 : (w4.alloc (.cells #[.int .i64 (d.writes.length : Int)] 3)).heap.size = w4.heap.size + 1 := World.size_alloc _ _
      have hn9 : Value.ownBlock (.slice ad9 (d.marks ++ [(d.writes.length : Int)]).length c9) ≠ some BO := by
        rcases h36 with e | e
        · rw [e]; exact hmr
        · rw [e, hsz4]; intro e2; injection e2 with e2; omega
      have hOw6 : OwnL Elt.wr 28 M M w6 (.slice wa d.writes.length wc) d.writes := by
        refine ((hOw.below hal).unbut).kept hg6.size fun k hk hl => hg6.block k hl fun e => ?_
        have := hr6 k e.symm
        omega
      have hOw7 : OwnL (Elt.but Elt.wr BO) 28 M M w7 (.slice wa d.writes.length wc) d.writes := by
        have hb6 : OwnL (Elt.but Elt.wr BO) 28 M M w6 (.slice wa d.writes.length wc) d.writes := by
          refine (hOw.below hal).kept hg6.size fun k hk hl => hg6.block k hl fun e => ?_
          have := hr6 k e.symm
          omega
        exact hb6.butOther hg7 fun e => by have := hOw0 _ e; omega
      have hO97 : OwnL Elt.int 3 W0.heap.size W0.heap.size w7 (.slice ad9 (d.marks ++ [(d.writes.length : Int)]).length c9) (d.marks ++ [(d.writes.length : Int)]) := hO9.num2 fun g hg => hg7.block g ((hO9.block_lt g hg).2) fun e => by injection e with e; exact hn9 (by rw [hg, e])
      have hz6 := hg6.size
      have hz7 := hg7.size
      have q7 : Below w.heap.size w w7 := ((q.trans (hal.mono q.size)).grown hg6 (by omega) (fun k e => by have := hr6 k e; omega)).grown hg7 (by omega) (fun k e => by injection e with e; omega)
      have hBZ7 : BoxN w7 (w.heap.size + 1) 25 [.slice none 0 0, .slice none 0 0] := ((hBZ.below hal hBZ.lt).other hg6 (fun e => by have := hr6 _ e; omega)).other hg7 (by simp; omega)
      obtain ⟨L9, hL9⟩ : ∃ L9, L9 = (d.marks ++ [(d.writes.length : Int)]).length := ⟨_, rfl⟩
      simp only [List.set_cons_zero, List.set_cons_succ] at hB7
      rw [← hL9] at hO97 hB7
      rw [← hL9]
      replace hL9 := Lib.hid hL9
      clear o0 o1 hOw hOw6 hO9 hn9 hOm
      have o0 := hB7.cell (i := 0) rfl
      have o1 := hB7.cell (i := 1) rfl
      go_wp2_with (first | (refine wpList_boxStore (us := [.slice wa d.writes.length wc, .slice ad9 L9 c9]) (by kernel_rfl) rfl rfl rfl rfl rfl rfl hBZ7 rfl ?_; intro wd hgd hBd) | fail)
      have d0 := hBd.cell (i := 0) rfl
      have d1 := hBd.cell (i := 1) rfl
      obtain ⟨fs, hu, _⟩ := dlS.hu
      refine bodyPost_ret (v := .tuple #[.agg #[.slice wa d.writes.length wc, .slice ad9 L9 c9], .int .i64 0]) (by simp [results, Try.results12, go_sem, loadVar, isAgg, run_underlying hu, run_sizeOf' dlS.hs, loadCellsFrom, Addr.add, d0, d1]) rfl ?_
      rw [DlEnd, HK.out]
      have hL := hL9.out
      subst hL
      exact ⟨_, rfl, ⟨wa, wc, ad9, c9, rfl, (hOw7.unbut.other hgd (by omega) (by omega)).rdS fun k hk hl => ⟨by omega, hl⟩, (hO97.other hgd (by omega) (by omega)).rdS fun k hk hl => ⟨by omega, hl⟩⟩, q7.grown hgd q7.size fun k e => by injection e with e; omega⟩
  · have dok : decide (okD d) = false := decide_eq_false hok
    have HK := Lib.hid (show markD d = (d, 1) by unfold markD; rw [if_neg hok])
    have o0 := hBO.cell (i := 0) rfl
    have o1 := hBO.cell (i := 1) rfl
    go_wp2_with (first | (refine wpList_boxStore (us := [.slice wa d.writes.length wc, .slice ma d.marks.length mc]) (by kernel_rfl) rfl rfl rfl rfl rfl rfl hBZ rfl ?_; intro wd hgd hBd) | fail)
    have d0 := hBd.cell (i := 0) rfl
    have d1 := hBd.cell (i := 1) rfl
    obtain ⟨fs, hu, _⟩ := dlS.hu
    refine bodyPost_ret (v := .tuple #[.agg #[.slice wa d.writes.length wc, .slice ma d.marks.length mc], .int .i64 1]) (by simp [results, Try.results12, go_sem, loadVar, isAgg, run_underlying hu, run_sizeOf' dlS.hs, loadCellsFrom, Addr.add, d0, d1]) rfl ?_
    rw [DlEnd, HK.out]
    exact ⟨_, rfl, ⟨wa, wc, ma, mc, rfl, (hOw.unbut.other hgd (by omega) (by omega)).rdS fun k hk hl => ⟨by omega, hl⟩, (hOm.other hgd (by omega) (by omega)).rdS fun k hk hl => ⟨by omega, hl⟩⟩, q.grown hgd q.size fun k e => by injection e with e; omega⟩
end Go.Proofs.Ytjbdkhddnblieaa
namespace Go.Proofs.Ytjbdkhddnblieaa
open Go.RowKit Go.Shelf
def BakJ (W : World) (bz : Nat) (d : Dl) : List Value → World → Prop
  | [], V => Below W.heap.size W V
  | [v], V => Below W.heap.size W V ∧ RdDl (fun k => W.heap.size ≤ k ∧ k < V.heap.size) V v d
  | _, V => W.grownBy V (some bz) ∧ ∃ a c a2 c2, BoxN V bz 25 [.slice a d.writes.length c, .slice a2 d.marks.length c2] ∧ RdL Elt.wr (fun k => W.heap.size ≤ k ∧ k < V.heap.size) V (.slice a d.writes.length c) d.writes ∧ RdL Elt.int (fun k => W.heap.size ≤ k ∧ k < V.heap.size) V (.slice a2 d.marks.length c2) d.marks
theorem BakJ.below {W : World} {bz : Nat} {d : Dl} : ∀ (l : List Value) (V V' : World), BakJ W bz d l V → Below V.heap.size V V' → BakJ W bz d l V'
  | [], _, _, h, hb => Below.trans h (hb.mono (Below.size h))
  | [_], _, _, ⟨h, h1⟩, hb => ⟨h.trans (hb.mono h.size), (h1.below hb).weak fun _ hk => ⟨hk.1, Nat.lt_of_lt_of_le hk.2 hb.size⟩⟩
  | _ :: _ :: _, _, _, ⟨h, a, c, a2, c2, h0, h1, h2⟩, hb => ⟨grown_trans h (grown_below' hb _), a, c, a2, c2, h0.below hb h0.lt, (h1.below hb).weak fun _ hk => ⟨hk.1, Nat.lt_of_lt_of_le hk.2 hb.size⟩, (h2.below hb).weak fun _ hk => ⟨hk.1, Nat.lt_of_lt_of_le hk.2 hb.size⟩⟩
theorem BakJ.grown {W : World} {bz : Nat} {d : Dl} : ∀ {l : List Value} {V : World}, BakJ W bz d l V → W.grownBy V (some bz)
  | [], _, h => grown_below2 h rfl _
  | [_], _, ⟨h, _⟩ => grown_below2 h rfl _
  | _ :: _ :: _, _, ⟨h, _⟩ => h
def bRd {α : Type} (E : Elt α) (w : World) (bz : Nat) (h : w.heap.size ≤ bz) (xs : List α) : SGn (fun A B => A.grownBy B (some bz)) :=
  ⟨fun V v => ∃ a c, v = .slice a xs.length c ∧ RdL E (· < w.heap.size) V (.slice a xs.length c) xs, fun _ _ _ ⟨a, c, e, hr⟩ hb => ⟨a, c, e, hr.below hb⟩,
    fun _ _ _ ⟨a, c, e, hr⟩ hk => ⟨a, c, e, (hr.fit.keep fun k hh => hk.block k hh.2 (fun e => by injection e with e; have := hh.1; omega)).weak fun _ hh => hh.1⟩⟩
def bDl (w : World) (bz : Nat) (h : w.heap.size ≤ bz) (d : Dl) : SGn (fun A B => A.grownBy B (some bz)) :=
  ⟨fun V v => RdDl (· < w.heap.size) V v d, fun _ _ _ hr hb => hr.below hb,
    fun _ _ _ ⟨a, c, a2, c2, e, h1, h2⟩ hk => ⟨a, c, a2, c2, e, (h1.fit.keep fun k hh => hk.block k hh.2 (fun e => by injection e with e; have := hh.1; omega)).weak fun _ hh => hh.1, (h2.fit.keep fun k hh => hk.block k hh.2 (fun e => by injection e with e; have := hh.1; omega)).weak fun _ hh => hh.1⟩⟩
set_option maxRecDepth 100000 in
set_option maxHeartbeats 8000000 in
theorem dBack_any (w : World) {S : Nat → Prop} {v : Value} {d : Dl} {i : Int} (h : RdDl S w v d) (hs : smD d) :
    Calls Try.prog 14 #[v, .int .i64 i] w (DlEnd w (backD d i)) := by
  replace h : RdDl (· < w.heap.size) w v d := by
    obtain ⟨a, c, a2, c2, e, h1, h2⟩ := h
    exact ⟨a, c, a2, c2, e, h1.fit.weak fun _ hk => hk.2, h2.fit.weak fun _ hk => hk.2⟩
  have hd := h
  obtain ⟨a, c, a2, c2, rfl, hw, hm⟩ := h
  obtain ⟨W0, hW, q, bn, bz, hsz⟩ := boxes2 w 25 25 [.slice a d.writes.length c, .slice a2 d.marks.length c2] [.slice none 0 0, .slice none 0 0]
  have eC : ∀ args w, (callFunc 29 args).run Try.prog w = .ok (.enter 29 args) w := enters_of Try.func29 (by kernel_rfl) rfl
  have hs1 := hs.1
  have hsm := hs.2.1
  go_enter Try.func14, Try.ntmps14
  go_upto_region 1 with (fail)
  rw [show (w.alloc (.cells #[.slice a d.writes.length c, .slice a2 d.marks.length c2] 25)).alloc (.cells #[.slice none 0 0, .slice none 0 0] 25) = W0 from hW.symm]
  clear hW
  have b0 := bn.cell (i := 0) rfl
  have b1 := bn.cell (i := 1) rfl
  go_wp2_with fail
  refine (dCheck_any W0 (hd.below q)).mono ?_
  rintro e w4 ⟨rfl, hb4⟩
  replace q := q.trans (hb4.mono q.size)
  replace bn := bn.below hb4 bn.lt
  replace bz := bz.below hb4 bz.lt
  have z4 := hb4.size
  have hsz' : w.heap.size + 1 + 1 ≤ w4.heap.size := by omega
  clear b0 b1 hb4 hsz z4
  have b0 := bn.cell (i := 0) rfl
  have b1 := bn.cell (i := 1) rfl
  by_cases hok : okD d
  · have dok : decide (okD d) = true := decide_eq_true hok
    by_cases hi0 : i < 0
    · have di : decide (i < 0) = true := decide_eq_true hi0
      have HK := Lib.hid (show backD d i = (d, 1) by unfold backD; rw [if_neg (fun h => by omega)])
      have HKx := HK
      go_wp2_with fail
      refine (dCopied_any w4 (hd.below q) hs).mono ?_
      rintro e w5 ⟨_, rfl, ho, hb5⟩
      obtain ⟨wa, wc, ma, mc, rfl, h7, h8⟩ := ho.rd
      have z5 := hb5.size
      have q5 := q.trans (hb5.mono q.size)
      have hBZ := bz.below hb5 bz.lt
      go_wp2_with (first | (refine wpList_boxStore (us := [.slice wa d.writes.length wc, .slice ma d.marks.length mc]) (by kernel_rfl) rfl rfl rfl rfl rfl rfl hBZ rfl ?_; intro wd hgd hBd) | fail)
      have d0 := hBd.cell (i := 0) rfl
      have d1 := hBd.cell (i := 1) rfl
      obtain ⟨fs, hu, _⟩ := dlS.hu
      refine bodyPost_ret (v := .tuple #[.agg #[.slice wa d.writes.length wc, .slice ma d.marks.length mc], .int .i64 1]) (by simp [results, Try.results14, go_sem, loadVar, isAgg, run_underlying hu, run_sizeOf' dlS.hs, loadCellsFrom, Addr.add, d0, d1]) rfl ?_
      rw [DlEnd, HKx.out]
      exact ⟨_, rfl, ⟨wa, wc, ma, mc, rfl, (h7.keep fun k hk => hgd.block k hk.2 fun e => by injection e with e; omega).weak fun k hk => ⟨by omega, Nat.lt_of_lt_of_le hk.2 hgd.size⟩, (h8.keep fun k hk => hgd.block k hk.2 fun e => by injection e with e; omega).weak fun k hk => ⟨by omega, Nat.lt_of_lt_of_le hk.2 hgd.size⟩⟩, q5.grown hgd q5.size fun k e => by injection e with e; omega⟩
    · have di : decide (i < 0) = false := decide_eq_false hi0
      by_cases hi1 : i < (d.marks.length : Int)
      · have dj : decide ((d.marks.length : Int) ≤ i) = false := decide_eq_false (by omega)
        obtain ⟨n, rfl⟩ : ∃ n : Nat, i = (n : Int) := ⟨i.toNat, by omega⟩
        have hn : n < d.marks.length := by omega
        obtain ⟨mb, mo, rfl, hmb, c0, hmi⟩ := hm.num n hn
        have hmk := okM_get hok.2.2.2 hn
        obtain ⟨m, hm0⟩ : ∃ m : Nat, (m : Int) = d.marks[n] := ⟨d.marks[n].toNat, by omega⟩
        have HK := Lib.hid (show backD d (n : Int) = (⟨d.writes.take m, d.marks.take (n + 1)⟩, 0) by
          unfold backD
          rw [if_pos ⟨hok, by omega, hi1⟩, Int.toNat_natCast, List.getD_eq_getElem?_getD, List.getElem?_eq_getElem hn, Option.getD_some, ← hm0, Int.toNat_natCast])
        rw [← hm0] at c0 hmk
        have hmle : m ≤ d.writes.length := by omega
        have hml : (d.writes.take m).length = m := by rw [List.length_take]; omega
        have hnl : (d.marks.take (n + 1)).length = n + 1 := by rw [List.length_take]; omega
        have hs2 : smD ⟨d.writes.take m, d.marks.take (n + 1)⟩ := ⟨by show (d.writes.take m).length ≤ _; omega, by show (d.marks.take (n + 1)).length ≤ _; omega, fun x hx => hs.2.2 x (List.mem_of_mem_take hx)⟩
        have hn4 : n ≤ 1000000 := by omega
        have hcl := hw.len.2.1
        have hcm := hm.len.2.1
        clear hm0
        go_upto_region 3 with (fail)
        clear b0 b1
        refine wp_region_lnl (K := fun A B => A.grownBy B (some (w.heap.size + 1))) (by kernel_rfl) (by kernel_rfl) [14, 15] (by kernel_rfl) [lEq (.pointer (some ⟨w.heap.size, 0 + 0, none⟩)), lEq (.slice a d.writes.length c), lEq (.pointer (some ⟨w.heap.size, 0 + 1, none⟩)), lEq (.slice (some ⟨mb, mo, none⟩) d.marks.length c2), lEq (.int .i64 (n : Int)), lEq (.pointer (some ⟨mb, mo + n * 1, none⟩)), lEq (.int .i64 (m : Int)), bRd Elt.wr w (w.heap.size + 1) (by omega) (d.writes.take m), lEq (.pointer (some ⟨w.heap.size, 0 + 1, none⟩)), lEq (.slice (some ⟨mb, mo, none⟩) d.marks.length c2), lEq (.int .i64 (n : Int)), lEq (.int .i64 ((n : Int) + 1)), bRd Elt.int w (w.heap.size + 1) (by omega) (d.marks.take (n + 1)), bDl w (w.heap.size + 1) (by omega) ⟨d.writes.take m, d.marks.take (n + 1)⟩, lAny, lAny, lEq (.int .i64 0)] (BakJ w4 (w.heap.size + 1) ⟨d.writes.take m, d.marks.take (n + 1)⟩) BakJ.below (show Below w4.heap.size w4 w4 from Below.refl _ _)
          ⟨?o0, ?o1, ?o2, ?o3, ?o4, ?o5, ?o6, ?o7, ?o8, ?o9, ?o10, ?o11, ?o12, ?o13, ?o14, ?o15, ?o16, trivial⟩ ?fin
        case o0 =>
          refine LnOp.side rfl (by kernel_rfl) (fun A va w' k hF hT hk hJ hb hu hp hd => ?_)
          have e1 : A.eval (.tmp 2) = .pointer (some ⟨w.heap.size, 0, none⟩) := hF 2 rfl
          exact wp_fieldN dlS rfl (e1) (by omega) ⟨_, rfl, rfl, Below.refl _ _⟩
        case o1 =>
          refine LnOp.side rfl (by kernel_rfl) (fun A va w' k hF hT hk hJ hb hu hp hd => ?_)
          have e1 : A.eval (.tmp 22) = .pointer (some ⟨w.heap.size, 0 + 0, none⟩) := (hT 22 0 (by simp) rfl).trans (hd ⟨0, .data⟩ (by simp) rfl rfl)
          exact wp_ld_slice (e := 28) rfl (e1) (by kernel_rfl) ((bn.other (BakJ.grown hJ) (by simp)).cell (i := 0) rfl) ⟨_, rfl, rfl, Below.refl _ _⟩
        case o2 =>
          refine LnOp.side rfl (by kernel_rfl) (fun A va w' k hF hT hk hJ hb hu hp hd => ?_)
          have e1 : A.eval (.tmp 2) = .pointer (some ⟨w.heap.size, 0, none⟩) := hF 2 rfl
          exact wp_fieldN dlS rfl (e1) (by omega) ⟨_, rfl, rfl, Below.refl _ _⟩
        case o3 =>
          refine LnOp.side rfl (by kernel_rfl) (fun A va w' k hF hT hk hJ hb hu hp hd => ?_)
          have e1 : A.eval (.tmp 24) = .pointer (some ⟨w.heap.size, 0 + 1, none⟩) := (hT 24 2 (by simp) rfl).trans (hd ⟨2, .data⟩ (by simp) rfl rfl)
          exact wp_ld_slice (e := 3) rfl (e1) (by kernel_rfl) ((bn.other (BakJ.grown hJ) (by simp)).cell (i := 1) rfl) ⟨_, rfl, rfl, Below.refl _ _⟩
        case o4 =>
          refine LnOp.side rfl (by kernel_rfl) (fun A va w' k hF hT hk hJ hb hu hp hd => ?_)
          have e1 : A.eval (.tmp 1) = .int .i64 (n : Int) := hF 1 rfl
          exact BigFrame.wp_move _ rfl ⟨_, rfl, e1, Below.refl _ _⟩
        case o5 =>
          refine LnOp.side rfl (by kernel_rfl) (fun A va w' k hF hT hk hJ hb hu hp hd => ?_)
          have e1 : A.eval (.tmp 25) = .slice (some ⟨mb, mo, none⟩) d.marks.length c2 := (hT 25 3 (by simp) rfl).trans (hd ⟨3, .data⟩ (by simp) rfl rfl)
          have e2 : A.eval (.tmp 26) = .int .i64 (n : Int) := (hT 26 4 (by simp) rfl).trans (hd ⟨4, .data⟩ (by simp) rfl rfl)
          exact wp_ixN (e := 3) rfl (by kernel_rfl) (by kernel_rfl) (e1) (e2) rfl (by omega) ⟨_, rfl, rfl, Below.refl _ _⟩
        case o6 =>
          refine LnOp.side rfl (by kernel_rfl) (fun A va w' k hF hT hk hJ hb hu hp hd => ?_)
          have e1 : A.eval (.tmp 27) = .pointer (some ⟨mb, mo + n * 1, none⟩) := (hT 27 5 (by simp) rfl).trans (hd ⟨5, .data⟩ (by simp) rfl rfl)
          exact wp_ld_int (k := .i64) rfl (e1) (by kernel_rfl) ((by simpa using ((cell_keep ((BakJ.grown hJ).block mb (Nat.lt_of_lt_of_le hmb q.size) (fun e => by injection e with e; omega)) _).trans ((q.cell (p := ⟨mb, mo + n, none⟩) hmb).trans c0)))) ⟨_, rfl, rfl, Below.refl _ _⟩
        case o7 =>
          refine LnOp.side rfl (by kernel_rfl) (fun A va w' k hF hT hk hJ hb hu hp hd => ?_)
          have e1 : A.eval (.tmp 23) = .slice a d.writes.length c := (hT 23 1 (by simp) rfl).trans (hd ⟨1, .data⟩ (by simp) rfl rfl)
          have e2 : A.eval (.tmp 28) = .int .i64 (m : Int) := (hT 28 6 (by simp) rfl).trans (hd ⟨6, .data⟩ (by simp) rfl rfl)
          have hr := (hw.below q).keep fun k (hk : k < w.heap.size) => (BakJ.grown hJ).block k (Nat.lt_of_lt_of_le hk q.size) (fun e => by injection e with e; omega)
          exact wp_sliceL wrP.toLsP rfl e1 hr rfl (congrArg some e2) (run_bounds_h _ (by omega)) (fun ad' c' h' => ⟨_, rfl, ⟨ad', c', by rw [hml]; rfl, by rw [hml]; simpa using h'⟩, Below.refl _ _⟩) (by omega) (by omega)
        case o8 =>
          refine LnOp.side rfl (by kernel_rfl) (fun A va w' k hF hT hk hJ hb hu hp hd => ?_)
          have e1 : A.eval (.tmp 2) = .pointer (some ⟨w.heap.size, 0, none⟩) := hF 2 rfl
          exact wp_fieldN dlS rfl (e1) (by omega) ⟨_, rfl, rfl, Below.refl _ _⟩
        case o9 =>
          refine LnOp.side rfl (by kernel_rfl) (fun A va w' k hF hT hk hJ hb hu hp hd => ?_)
          have e1 : A.eval (.tmp 30) = .pointer (some ⟨w.heap.size, 0 + 1, none⟩) := (hT 30 8 (by simp) rfl).trans (hd ⟨8, .data⟩ (by simp) rfl rfl)
          exact wp_ld_slice (e := 3) rfl (e1) (by kernel_rfl) ((bn.other (BakJ.grown hJ) (by simp)).cell (i := 1) rfl) ⟨_, rfl, rfl, Below.refl _ _⟩
        case o10 =>
          refine LnOp.side rfl (by kernel_rfl) (fun A va w' k hF hT hk hJ hb hu hp hd => ?_)
          have e1 : A.eval (.tmp 1) = .int .i64 (n : Int) := hF 1 rfl
          exact BigFrame.wp_move _ rfl ⟨_, rfl, e1, Below.refl _ _⟩
        case o11 =>
          refine LnOp.side rfl (by kernel_rfl) (fun A va w' k hF hT hk hJ hb hu hp hd => ?_)
          have e1 : A.eval (.tmp 32) = .int .i64 (n : Int) := (hT 32 10 (by simp) rfl).trans (hd ⟨10, .data⟩ (by simp) rfl rfl)
          exact wp_addI rfl (e1) (rfl) (by omega) (by omega) ⟨_, rfl, rfl, Below.refl _ _⟩
        case o12 =>
          refine LnOp.side rfl (by kernel_rfl) (fun A va w' k hF hT hk hJ hb hu hp hd => ?_)
          have e1 : A.eval (.tmp 31) = .slice (some ⟨mb, mo, none⟩) d.marks.length c2 := (hT 31 9 (by simp) rfl).trans (hd ⟨9, .data⟩ (by simp) rfl rfl)
          have e2 : A.eval (.tmp 33) = .int .i64 ((n : Int) + 1) := (hT 33 11 (by simp) rfl).trans (hd ⟨11, .data⟩ (by simp) rfl rfl)
          have hr := (hm.below q).keep fun k (hk : k < w.heap.size) => (BakJ.grown hJ).block k (Nat.lt_of_lt_of_le hk q.size) (fun e => by injection e with e; omega)
          exact wp_sliceL inP.toLsP rfl e1 hr rfl (congrArg some e2) (run_bounds_h (h := n + 1) _ (by omega)) (fun ad' c' h' => ⟨_, rfl, ⟨ad', c', by rw [hnl]; rfl, by rw [hnl]; simpa using h'⟩, Below.refl _ _⟩) (by omega) (by omega)
        case o13 =>
          refine LnOp.side rfl (by kernel_rfl) (fun A va w' k hF hT hk hJ hb hu hp hd => ?_)
          have x1 : A.eval (.tmp 29) = va 7 := hT 29 7 (by simp) rfl
          have y1 := hd ⟨7, .data⟩ (by simp) rfl rfl
          have x2 : A.eval (.tmp 34) = va 12 := hT 34 12 (by simp) rfl
          have y2 := hd ⟨12, .data⟩ (by simp) rfl rfl
          obtain ⟨a7, c7, e7, h7⟩ := y1
          obtain ⟨a8, c8, e8, h8⟩ := y2
          exact wp_build2 dlS rfl (x1.trans e7) (x2.trans e8) rfl rfl ⟨_, rfl, ⟨a7, c7, a8, c8, rfl, h7, h8⟩, Below.refl _ _⟩
        case o14 =>
          refine LnOp.line 0 rfl rfl (fun A va w' hF hT hJ hu hd => ?_)
          have x1 : A.eval (.tmp 35) = va 13 := hT 35 13 (by simp) rfl
          have y1 := hd ⟨13, .data⟩ (by simp) rfl rfl
          have hJ0 : Below w4.heap.size w4 w' := hJ
          refine wp_callFn rfl eC (args := #[va 13]) (by simp only [List.map_toArray, List.map_cons, List.map_nil, x1]) ((dCopied_any w' y1 hs2).mono ?_)
          rintro e w2 ⟨v2, rfl, ho, hb2⟩
          exact ⟨_, rfl, _, rfl, ⟨hJ0.trans (hb2.mono hJ0.size), (ho.rd).weak fun k hk => ⟨Nat.le_trans hJ0.size hk.1, hk.2⟩⟩, grown_below' hb2 _⟩
        case o15 =>
          refine LnOp.line 1 rfl rfl (fun A va w' hF hT hJ hu hd => ?_)
          have e1 : A.eval (.tmp 4) = .pointer (some ⟨w.heap.size + 1, 0, none⟩) := hF 4 rfl
          have x2 : A.eval (.tmp 36) = va 14 := hT 36 14 (by simp) rfl
          obtain ⟨hJ0, a7, c7, a8, c8, e7, h7, h8⟩ := hJ
          refine wp_boxStore (us := [.slice a7 _ c7, .slice a8 _ c8]) (by kernel_rfl) rfl e1 (x2.trans e7) rfl (bz.below hJ0 (by omega)) rfl (fun w2 hg hB2 => ?_)
          exact ⟨_, rfl, ⟨(grown_below2 hJ0 rfl _).andThen hg (by simp), a7, c7, a8, c8, hB2, (h7.keep fun k hk => hg.block k hk.2 fun e => by injection e with e; omega).weak fun k hk => ⟨hk.1, Nat.lt_of_lt_of_le hk.2 hg.size⟩, (h8.keep fun k hk => hg.block k hk.2 fun e => by injection e with e; omega).weak fun k hk => ⟨hk.1, Nat.lt_of_lt_of_le hk.2 hg.size⟩⟩, hg⟩
        case o16 =>
          refine LnOp.side rfl (by kernel_rfl) (fun A va w' k hF hT hk hJ hb hu hp hd => ?_)
          exact BigFrame.wp_assign _ rfl ⟨_, rfl, rfl, Below.refl _ _⟩
        case fin =>
          intro vs1 W9 hJ hG
          obtain ⟨hg9, a9, c9, a8, c8, hB9, h7, h8⟩ := hJ
          have g16 : vs1 16 = .int .i64 0 := hG 16 (by decide) rfl
          clear hG
          simp only [putAll, g16]
          clear g16
          have d0 := hB9.cell (i := 0) rfl
          have d1 := hB9.cell (i := 1) rfl
          go_simp
          go_wp2_with fail
          obtain ⟨fs, hu, _⟩ := dlS.hu
          refine bodyPost_ret (v := .tuple #[.agg #[.slice a9 (d.writes.take m).length c9, .slice a8 (d.marks.take (n + 1)).length c8], .int .i64 0]) (by simp [results, Try.results14, go_sem, loadVar, isAgg, run_underlying hu, run_sizeOf' dlS.hs, loadCellsFrom, Addr.add, d0, d1]) rfl ?_
          rw [DlEnd, HK.out]
          exact ⟨_, rfl, ⟨a9, c9, a8, c8, rfl, h7.weak fun k hk => ⟨by omega, hk.2⟩, h8.weak fun k hk => ⟨by omega, hk.2⟩⟩, q.grown hg9 q.size fun k e => by injection e with e; omega⟩
      · have dj : decide ((d.marks.length : Int) ≤ i) = true := decide_eq_true (by omega)
        have HK := Lib.hid (show backD d i = (d, 1) by unfold backD; rw [if_neg (fun h => by omega)])
        have HKx := HK
        go_wp2_with fail
        refine (dCopied_any w4 (hd.below q) hs).mono ?_
        rintro e w5 ⟨_, rfl, ho, hb5⟩
        obtain ⟨wa, wc, ma, mc, rfl, h7, h8⟩ := ho.rd
        have z5 := hb5.size
        have q5 := q.trans (hb5.mono q.size)
        have hBZ := bz.below hb5 bz.lt
        go_wp2_with (first | (refine wpList_boxStore (us := [.slice wa d.writes.length wc, .slice ma d.marks.length mc]) (by kernel_rfl) rfl rfl rfl rfl rfl rfl hBZ rfl ?_; intro wd hgd hBd) | fail)
        have d0 := hBd.cell (i := 0) rfl
        have d1 := hBd.cell (i := 1) rfl
        obtain ⟨fs, hu, _⟩ := dlS.hu
        refine bodyPost_ret (v := .tuple #[.agg #[.slice wa d.writes.length wc, .slice ma d.marks.length mc], .int .i64 1]) (by simp [results, Try.results14, go_sem, loadVar, isAgg, run_underlying hu, run_sizeOf' dlS.hs, loadCellsFrom, Addr.add, d0, d1]) rfl ?_
        rw [DlEnd, HKx.out]
        exact ⟨_, rfl, ⟨wa, wc, ma, mc, rfl, (h7.keep fun k hk => hgd.block k hk.2 fun e => by injection e with e; omega).weak fun k hk => ⟨by omega, Nat.lt_of_lt_of_le hk.2 hgd.size⟩, (h8.keep fun k hk => hgd.block k hk.2 fun e => by injection e with e; omega).weak fun k hk => ⟨by omega, Nat.lt_of_lt_of_le hk.2 hgd.size⟩⟩, q5.grown hgd q5.size fun k e => by injection e with e; omega⟩
  · have dok : decide (okD d) = false := decide_eq_false hok
    have HK := Lib.hid (show backD d i = (d, 1) by unfold backD; rw [if_neg (fun h => hok h.1)])
    have HKx := HK
    go_wp2_with fail
    refine (dCopied_any w4 (hd.below q) hs).mono ?_
    rintro e w5 ⟨_, rfl, ho, hb5⟩
    obtain ⟨wa, wc, ma, mc, rfl, h7, h8⟩ := ho.rd
    have z5 := hb5.size
    have q5 := q.trans (hb5.mono q.size)
    have hBZ := bz.below hb5 bz.lt
    go_wp2_with (first | (refine wpList_boxStore (us := [.slice wa d.writes.length wc, .slice ma d.marks.length mc]) (by kernel_rfl) rfl rfl rfl rfl rfl rfl hBZ rfl ?_; intro wd hgd hBd) | fail)
    have d0 := hBd.cell (i := 0) rfl
    have d1 := hBd.cell (i := 1) rfl
    obtain ⟨fs, hu, _⟩ := dlS.hu
    refine bodyPost_ret (v := .tuple #[.agg #[.slice wa d.writes.length wc, .slice ma d.marks.length mc], .int .i64 1]) (by simp [results, Try.results14, go_sem, loadVar, isAgg, run_underlying hu, run_sizeOf' dlS.hs, loadCellsFrom, Addr.add, d0, d1]) rfl ?_
    rw [DlEnd, HKx.out]
    exact ⟨_, rfl, ⟨wa, wc, ma, mc, rfl, (h7.keep fun k hk => hgd.block k hk.2 fun e => by injection e with e; omega).weak fun k hk => ⟨by omega, Nat.lt_of_lt_of_le hk.2 hgd.size⟩, (h8.keep fun k hk => hgd.block k hk.2 fun e => by injection e with e; omega).weak fun k hk => ⟨by omega, Nat.lt_of_lt_of_le hk.2 hgd.size⟩⟩, q5.grown hgd q5.size fun k e => by injection e with e; omega⟩
end Go.Proofs.Ytjbdkhddnblieaa
