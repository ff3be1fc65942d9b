/-
  THE WALK OF frame's All. Slices of at most a million bytes.
-/
import Derived.RangeFuncNested
import Derived.RangeFuncBox
import Derived.Shelf.Abstract
import Derived.WalkKit
import Derived.WalkSpells
import Derived.WalkLawsBesides
import Derived.OwnWalkIn
import Derived.TacticsInMore
import Derived.LoopNIn
import Derived.LoopIn
import Derived.Maps.AppendAt
import Derived.Lib.Hide
import Derived.Deep.QuietTactic
import Derived.Deep.Cut
import Derived.BigQuiet
import Derived.Test.YtebilecgmblmfaaProg
import Derived.Test.YtebilecgmblmfaaByte
import Derived.Test.YtebilecgmblmfaaRyo
import Derived.Test.YtebilecgmblmfaaRange
import Derived.Test.YtebilecgmblmfaaOctB
import Derived.Test.YtebilecgmblmfaaFrmE
namespace Go.Proofs.Ytebilecgmblmfaa
open Go.RowKit Go.Shelf
attribute [local go_sem] Oper.semAt_some

theorem ryP : RyP Try.prog 25 22 := ⟨by kernel_rfl, by kernel_rfl⟩

/-- How many bytes the frames of pieces have. -/
def totP (ps : List Piece) : Nat := (framesB (ps.map (·.t))).length
theorem totP_snoc (ps : List Piece) (x : Piece) : totP (ps ++ [x]) = totP ps + (frameB x.t).length := by simp [totP, framesB]

theorem totP_le (ps : List Piece) : totP ps ≤ 2006 * ps.length := by
  have key : ∀ l : List Piece, (framesB (l.map (·.t))).length ≤ 2006 * l.length := by
    intro l
    induction l with
    | nil => simp [framesB]
    | cons p l ih =>
      rw [List.map_cons, framesB_cons, List.length_append, List.length_cons]
      have h1 := (frameB_le p.le).2
      have h2 := p.le
      omega
  exact key ps
theorem KpF.own {β : Type} {n₀ lo hi B : Nat} {w₀ : World} (h1 : n₀ ≤ w₀.heap.size) (h2 : n₀ ≤ B) (h3 : hi ≤ B) (h4 : hi ≤ w₀.heap.size) : OwnFrom B (fun (_ : β) W => KpF n₀ lo hi w₀ W) := fun _ X Y row hs hg hr =>
  ⟨hs.1.grown hg (Nat.le_trans h1 hs.1.size) (fun k e => Nat.le_trans h2 (hr k e).1), fun k ha hb => (hg.block k (by have := hs.1.size; omega) (fun e => by have := (hr k e.symm).1; omega)).trans (hs.2 k ha hb)⟩
theorem boxed_own {β : Type} {B b : Nat} {t : TypeId} {v : β → Value} : OwnFrom B (fun (s : β) W => Boxed W b t (v s)) := fun s X Y row hs hg hr =>
  hs.kept hg (fun e => by obtain ⟨_, o, ho, hc⟩ := hr _ e.symm; rw [show X.heap[b]? = _ from hs] at ho; cases ho; cases hc)
theorem owns_to {E : TypeId} {base base' size : Nat} {w : World} {v : Value} {n : Nat} {xs : List Value} (h : w.ownsRow base E size v n xs) (hb : base' ≤ base) : w.ownsRow base' E size v n xs :=
  ⟨h.1, h.2.imp id fun ⟨g, cap, cur, a, b, c⟩ => ⟨g, cap, cur, a, Nat.le_trans hb b, c⟩⟩
theorem boxed_below {W W' : World} {n b : Nat} {t : TypeId} {v : Value} (h : Boxed W b t v) (hb : Below n W W') (hn : b < n) : Boxed W' b t v := (hb.block b hn).trans h

theorem rowsNo_pieces {g : Option Nat} {lo hi B : Nat} {w : World} (ys : List Piece) (xss : List (List UInt8)) (he : ys.map (·.t) = xss) (h : ∀ y ∈ ys, RdIn lo hi w y.hd y.t) (hB : hi ≤ B) (hg : ∀ k, g = some k → hi ≤ k) : RowsNo g B w (ys.map Piece.hd) xss := by
  subst he
  refine ⟨by simp, fun r hr => ?_⟩
  have hr' : r < ys.length := by simpa using hr
  refine ⟨ys[r].ad, ys[r].t.length, ys[r].c, by simp [hr', Piece.hd], ?_⟩
  simp only [List.getElem_map]
  exact ((h ys[r] (List.getElem_mem hr')).rd.no hg).mono hB

/-- What All hands back, in new memory. -/
def AllEnd (w : World) (xs : List UInt8) (e : Ending) (w' : World) : Prop :=
  ∃ ad c, e = .returned (.tuple #[.slice ad (textsF xs).length c, .int .i64 ((framesB (textsF xs)).length : Nat)]) ∧ OwnR 22 w.heap.size w' (.slice ad (textsF xs).length c) (textsF xs) ∧ Below w.heap.size w w'

set_option maxRecDepth 100000 in
set_option maxHeartbeats 2000000 in
theorem all_any (w : World) {B : Nat} {ad : Option Addr} {n c : Nat} {xs : List UInt8} (hr : Rd B w (.slice ad n c) xs) (hB : B ≤ w.heap.size) (hx : xs.length ≤ 1000000) :
    Calls Try.prog 34 #[.slice ad n c] w (AllEnd w xs) := by
  obtain ⟨rfl, hnc, hcm⟩ := hr.len
  refine calls_of_wp_marks Try.func34 rfl ?_
  simp only [Try.ntmps34, List.size_toArray, List.length_cons, List.length_nil, Nat.reduceAdd, Nat.reduceSub, Array.replicate_succ, Array.replicate_zero, List.push_toArray, List.append_toArray, List.nil_append, List.cons_append]
  go_wp2_with (first
    | (go_at_call 36; refine (clone_any _ (hr.below (((Below.refl _ _).alloc hB _).alloc (Nat.le_trans hB (by simp)) _)) (Nat.le_trans hB (by simp; omega)) hx).mono ?_; rintro e w3 ⟨ad3, k3, c3, rfl, hF⟩))
  refine (frames_any _ ad3 k3 c3 rfl _).mono ?_
  rintro e w4 ⟨rfl, hw4⟩
  go_wp2_with fail
  have hRd : RdIn (w.heap.size + 2) w3.heap.size w3 (.slice ad3 k3 c3) xs := by have := hF.2.rdIn; simpa using this
  have bT : Boxed w3 w.heap.size 25 (.slice none 0 0) := boxed_below ((Boxed.new w 25 _).alloc _) hF.1 (by simp; omega)
  have bE : Boxed w3 (w.heap.size + 1) 3 (.int .i64 0) := by
    have := Boxed.new (w.alloc (.cells #[.slice none 0 0] 25)) 3 (.int .i64 0)
    rw [World.size_alloc] at this
    exact boxed_below this hF.1 (by simp)
  have hb03 : Below w.heap.size w w3 := (((Below.refl _ _).alloc (Nat.le_refl _) _).alloc (by simp) _).trans (hF.1.mono (by simp; omega))
  have hs3 : w.heap.size + 2 ≤ w3.heap.size := by have := hF.1.size; simp at this; omega
  have hb04 : Below w.heap.size w w4 := by rw [hw4]; exact hb03.alloc hb03.size _
  have bT4 : Boxed w4 w.heap.size 25 (.slice none 0 0) := by rw [hw4]; exact bT.alloc _
  have bE4 : Boxed w4 (w.heap.size + 1) 3 (.int .i64 0) := by rw [hw4]; exact bE.alloc _
  have hRd4 : RdIn (w.heap.size + 2) w3.heap.size w4 (.slice ad3 k3 c3) xs := hRd.kept fun k _ h => by rw [hw4]; exact Below.heap_alloc _ _ _ h
  have bN : Boxed w4 w3.heap.size 22 (.slice ad3 k3 c3) := by rw [hw4]; exact Boxed.new w3 _ _
  have hs4 : w4.heap.size = w3.heap.size + 1 := by rw [hw4]; simp
  rw [← hw4]
  clear hw4 hRd bT bE hF hb03
  have hN : (textsF xs).length ≤ 200000 := by have := textsF_count xs; omega
  obtain ⟨i0, hi, hz0, hz1, hz2⟩ := ryP.info
  refine wp_rangeFunc (gf := 45) (lb := #[.pointer (some ⟨w3.heap.size, 0, none⟩)]) rfl (enters_of Try.func45 (by kernel_rfl) rfl)
    (frames_stops w3.heap.size w.heap.size (w.heap.size + 2) w3.heap.size xs hx ad3 k3 c3 w4 (by omega) bN.cell bN.lt hRd4) (fun h k => h.trans k)
    (fun W l o o' hl h1 h2 h3 => ⟨belowK_b hb04.size W l o o' hl h1 h2 h3, fun k _ hk => World.putObj_heap_other (by omega)⟩) (Below.refl _ _) (fun _ => rfl)
    (fun pre W => (∃ v, Boxed W w.heap.size 25 v ∧ W.ownsRow w3.heap.size 22 1 v pre.length (pre.map Piece.hd) ∧ ∃ ad k c, v = .slice ad k c) ∧ Boxed W (w.heap.size + 1) 3 (.int .i64 (totP pre : Nat)) ∧ KpF w.heap.size (w.heap.size + 2) w3.heap.size w4 W)
    (fun _ _ _ => False)
    (OwnFrom.and (Go.Own.from (holdsRow_own w3.heap.size w.heap.size 25 22 1 (fun pre : List Piece => pre.length) (fun pre => pre.map Piece.hd) (fun _ v => ∃ ad k c, v = .slice ad k c)) _) (OwnFrom.and boxed_own (KpF.own (by omega) (by omega) (by omega) (by omega))))
    (fun _ _ _ _ _ hs _ _ => hs)
    ⟨⟨_, bT4, World.ownsRow_nil _ _ _ _, none, 0, 0, rfl⟩, bE4, KpF.refl _ _ _ _⟩
    (fun x => { tmps := #[.slice ad xs.length c, undef, .slice none 0 0, .int .i64 0, .pointer (some ⟨w.heap.size, 0, none⟩), .pointer (some ⟨w.heap.size + 1, 0, none⟩), .slice x.ad x.t.length x.c, .int .i64 ((frameB x.t).length : Nat), .slice ad xs.length c, .slice ad3 k3 c3, .func (.func 45) #[] #[.pointer (some ⟨w3.heap.size, 0, none⟩)], .slice x.ad x.t.length x.c, .int .i64 ((frameB x.t).length : Nat), undef, undef, undef, undef, undef, undef, undef, undef, undef], defers := [] }) ?assign ?body ?done ?stop
  case assign =>
    intro l x W K hK
    gi_wp2
    refine Eq.mp ?_ hK
    kernel_rfl
  case stop =>
    rintro D c pre W _ _ h _
    exact h.elim
  case body =>
    rintro l pre x W ⟨⟨v, hv, hrow, ad6, k6, c6, rfl⟩, hE, hKp⟩ hlt
    have hc := hv.cell
    have hf := hv.frozen
    have hpl : pre.length ≤ 200000 := by omega
    have htl := totP_le pre
    have hfx := (frameB_le x.le).2
    have hxl := x.le
    have hWs : w3.heap.size ≤ W.heap.size := by have := hKp.1.size; omega
    have hk1 : pre.length + 1 ≤ maxLen := by unfold maxLen; omega
    have hk2 : (pre.length + 1) * 24 ≤ 140737488355328 := by omega
    have hk3 : w3.heap.size ≤ (W.alloc (.cells #[.slice x.ad x.t.length x.c] 22)).heap.size := Nat.le_trans hWs (by simp)
    gi_wp2_with (gi_at_builtin; refine wpListIn_append_own _ rfl _ _ 25 rfl w3.heap.size 22 i0 (.slice none 0 0) 1 24 ryP.hT hi hz0 hz1 hz2 rfl (by decide) _ _ _ rfl (hrow.alloc _) ⟨W.heap.size, 0, none⟩ 1 1 [.slice x.ad x.t.length x.c] rfl rfl (cell_one_new _ _ _) (by simp [Value.oneCell']) hk1 hk2 hk3 ?_; intro v' w1 hown' hgrow _; obtain ⟨g', cap', rfl⟩ := ownsRow_succ hown'; obtain ⟨hv1, hv2, _, hke, hbe⟩ := hv.appended (by decide) (owns_to hrow (base' := w.heap.size) (by omega)) (by omega) (Nat.le_refl _) (owns_to hown' (base' := w.heap.size) (by omega)) hgrow; have hc1 := hv1.cell; have hf1 := hv1.frozen; have hE2 : Boxed (w1.setCell ⟨w.heap.size, 0, none⟩ (.slice (some ⟨g', 0, none⟩) (pre.length + 1) cap')) (w.heap.size + 1) 3 (.int .i64 (totP pre : Nat)) := ((hE.alloc _).kept hgrow (hE.not_row (by decide) hrow)).kept (grownBy_setCell' w1 w.heap.size _) (by simp); have hcE := hE2.cell; have hfE := hE2.frozen)
    have hrow2 := hown'.kept (grownBy_setCell' w1 w.heap.size (.slice (some ⟨g', 0, none⟩) (pre.length + 1) cap')) (.inr (hv1.not_row (by decide) hown').symm)
    have hkk : ∀ k, w.heap.size + 2 ≤ k → k < w3.heap.size → (w1.setCell ⟨w.heap.size, 0, none⟩ (.slice (some ⟨g', 0, none⟩) (pre.length + 1) cap')).heap[k]? = W.heap[k]? := fun k h1 h2 =>
      (heap_setCell_other w1 ⟨w.heap.size, 0, none⟩ k _ (by simp; omega)).trans ((hgrow.block k (by simp; omega) (fun e => by have := hrow.lt k e.symm; omega)).trans (Below.heap_alloc W _ k (by omega)))
    generalize w1.setCell ⟨w.heap.size, 0, none⟩ (.slice (some ⟨g', 0, none⟩) (pre.length + 1) cap') = W1 at *
    have hk' : KpF w.heap.size (w.heap.size + 2) w3.heap.size W (W1.setCell ⟨w.heap.size + 1, 0, none⟩ (.int .i64 ((totP pre : Int) + (frameB x.t).length))) :=
      ⟨hbe.trans ((Below.refl _ _).setCell (p := ⟨w.heap.size + 1, 0, none⟩) (by show w.heap.size ≤ w.heap.size + 1; omega) _), fun k h1 h2 => (heap_setCell_other W1 ⟨w.heap.size + 1, 0, none⟩ k _ (by simp; omega)).trans (hkk k h1 h2)⟩
    refine ⟨(hke.from _).trans ((KeepsOthers.setCell _ _ _).from _), hk', ⟨_, hv2.kept (grownBy_setCell' W1 (w.heap.size + 1) _) (by simp), ?_, _, _, _, rfl⟩, ?_, hKp.trans hk'⟩
    · have := hrow2.kept (grownBy_setCell' W1 (w.heap.size + 1) (.int .i64 ((totP pre : Int) + (frameB x.t).length))) (.inr (hE2.not_row (by decide) hrow2).symm)
      simpa [Piece.hd] using this
    · rw [totP_snoc]
      have := hE2.set (.int .i64 ((totP pre : Int) + (frameB x.t).length))
      simpa using this
  case done =>
    rintro D ys W hD ⟨hy1, hy2⟩ ⟨⟨v, hv, hrow, ad6, k6, c6, rfl⟩, hE, hKp⟩ hK
    have hc := hv.cell
    have hcE := hE.cell
    have htot : totP ys = (framesB (textsF xs)).length := by unfold totP; rw [hy1]
    have hyl : ys.length = (textsF xs).length := by rw [← hy1]; simp
    rw [htot] at hcE
    have hk6 : k6 = (textsF xs).length := by
      rcases hrow.2 with ⟨h, h0⟩ | ⟨g, cap, cur, h, _⟩
      · cases h; omega
      · cases h; exact hyl
    subst hk6
    go_upto_region 8 with (fail)
    go_quiet (fail)
    go_wp2
    have hK2 : (W.drewN nq).heap[D]? = some (.deferred (some [])) := hK
    refine ⟨by simp, .inl ⟨_, _, rfl, run_takeDeferred hK2, ?_⟩⟩
    refine ⟨.tuple #[.slice ad6 (textsF xs).length c6, .int .i64 ((framesB (textsF xs)).length : Nat)], by simp [results, Try.results34, go_sem], ad6, c6, rfl, ⟨ys.map Piece.hd, ?_, ?_⟩, ?_⟩
    · have := ownsRow_putObj (W := W.drewN nq) hrow (Obj.deferred none) hK2 rfl
      rw [hyl] at this
      exact owns_to this (by omega)
    · refine rowsNo_pieces ys _ hy1 (fun y hy => (hy2 y hy).kept fun k h1 h2 => ?_) (lo := w.heap.size + 2) (hi := w3.heap.size) ?_ ?_
      · exact (World.putObj_heap_other (w := W.drewN nq) (by omega)).trans (hKp.2 k h1 h2)
      · have := hKp.1.size
        simp
        omega
      · exact fun k hk => (hrow.lt k hk).1
    · exact Below.drewN (hb04.trans hKp.1) nq |>.trans (belowK_b (w := w) (Nat.le_refl _) (W.drewN nq) D _ _ (by omega) hK2 rfl rfl)
end Go.Proofs.Ytebilecgmblmfaa
