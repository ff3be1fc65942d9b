/-
  TEXTS OF ONE PROOF, merged: Kept, Box, DltM, Dlt, SpnM, Spn, SpA, Sink, Line, OctB, Cpy, Quo.
-/
import Derived.BigFrame
import Derived.ChangeAlike
import Derived.Deep.Matrix
import Derived.Laws.CopyRow
import Derived.Laws.Tables
import Derived.Lib.AppendZerosOnto
import Derived.Lib.Overlaps
import Derived.Lib.SmallJoins
import Derived.RegionTactic
import Derived.Shelf.Abstract
import Derived.Test.YtccoklhmbikfmaaDoorKb1
namespace Go.Proofs.YtccoklhmbikfmaaDoor
open Go.RowKit
def NotU8 (v : Value) : Prop := ∀ i, v ≠ .int .u8 i
def IsBox (w : World) (t : TypeId) (b : Nat) : Prop := ∃ x y, w.heap[b]? = some (.cells #[x, y] t (0, 0)) ∧ NotU8 x ∧ NotU8 y
def BoxK (ok : Nat → Prop) (t : TypeId) (A B : World) : Prop := A = B ∨ ∃ b, ok b ∧ A.grownBy B (some b) ∧ IsBox A t b ∧ IsBox B t b
section
variable {P : Program} {Q : Exit → Act → World → Prop}
def kk (ok : Nat → Prop) (t : TypeId) (m : Nat) (i : Nat) (A B : World) : Prop := if i = m then BoxK ok t A B else Below A.heap.size A B
end
section
variable {P : Program} {t : TypeId} {x0 y0 : Value} {o : Oper} {a : Act} {K : Act → World → Prop} {Q : Exit → Act → World → Prop} {w : World}
theorem wp_skip {w2 : World} (hrun : (execOp a.eval o).run P w = .ok .skip w2) (h : K (a.put o.dst undef) w2) : o.wp P a w K Q := by
  unfold Oper.wp
  rw [hrun]
  exact h
end
end Go.Proofs.YtccoklhmbikfmaaDoor
namespace Go.Proofs.YtccoklhmbikfmaaDoor
open Go.RowKit
def BoxN (W : World) (b : Nat) (t : TypeId) (vs : List Value) : Prop := W.heap[b]? = some (.cells vs.toArray t (0, 0))
section
variable {W W' : World} {b : Nat} {t : TypeId} {vs : List Value}
theorem BoxN.new (W : World) (t : TypeId) (vs : List Value) : BoxN (W.alloc (.cells vs.toArray t)) W.heap.size t vs := by unfold BoxN; simp only [World.alloc, Array.getElem?_push_size]
theorem BoxN.lt (h : BoxN W b t vs) : b < W.heap.size := (Array.getElem?_eq_some_iff.1 h).1
theorem BoxN.cell (h : BoxN W b t vs) {i : Nat} {u : Value} (hi : vs[i]? = some u) : W.cell? ⟨b, i, none⟩ = some u := by simp [World.cell?, show W.heap[b]? = _ from h, hi]
theorem BoxN.frozen (h : BoxN W b t vs) (i : Nat) : W.frozen? ⟨b, i, none⟩ = false := by simp [World.frozen?, show W.heap[b]? = _ from h]
theorem BoxN.below {n : Nat} (h : BoxN W b t vs) (hb : Below n W W') (hn : b < n) : BoxN W' b t vs := (hb.block b hn).trans h
theorem BoxN.other {c : Option Nat} (h : BoxN W b t vs) (hg : W.grownBy W' c) (hn : c ≠ some b) : BoxN W' b t vs := (hg.block b h.lt fun e => hn e.symm).trans h
end
section
variable {P : Program} {t : TypeId} {n : Nat} {ops : Array Oper} {rest : List Oper} {o : Oper} {a : Act} {K : Act → World → Prop} {Q : Exit → Act → World → Prop} {w : World}
theorem wp_boxNew {vs : List Value} (hz : (P.info? t).bind (·.zero) = some (.agg vs.toArray)) (ho : o.op = .alloc t) (h : ∀ w', Below w.heap.size w w' → BoxN w' w.heap.size t vs → K (a.put o.dst (.pointer (some ⟨w.heap.size, 0, none⟩))) w') : o.wp P a w K Q := by
  have hzz : (zeroValue t).run P w = .ok (.agg vs.toArray) w := by
    cases hi : P.info? t with
    | none => simp [hi] at hz
    | some i => simp [hi] at hz; simp [zeroValue, typeInfo, hi, hz]
  have hrun : (execOp a.eval o).run P w = .ok (.value (.pointer (some ⟨w.heap.size, 0, none⟩))) (w.alloc (.cells vs.toArray t)) := by
    simp [execOp, ho, newVar, hzz, Value.cells, go_sem]
  unfold Oper.wp
  rw [hrun]
  exact h _ ((Below.refl _ _).alloc (Nat.le_refl _) _) (BoxN.new w t vs)
theorem wpList_boxNew {vs : List Value} (hz : (P.info? t).bind (·.zero) = some (.agg vs.toArray)) (ho : o.op = .alloc t) (hgd : Region.wanted o (yielded ops a.tmps) = true) (h : ∀ w', Below w.heap.size w w' → BoxN w' w.heap.size t vs → wpList P ops Q rest (a.put o.dst (.pointer (some ⟨w.heap.size, 0, none⟩))) w') : wpList P ops Q (o :: rest) a w :=
  BigFrame.wpList_want hgd fun _ hK => wp_boxNew hz ho fun w' h1 h2 => hK _ _ (h w' h1 h2)
theorem wp_boxStore {vs us : List Value} {x y : Operand} {b : Nat} (hs : (P.info? t).map (·.size) = some us.length) (ho : o.op = .store t x y) (hx : a.eval x = .pointer (some ⟨b, 0, none⟩)) (hy : a.eval y = .agg us.toArray) (h1 : us.all (·.oneCell') = true) (hb : BoxN w b t vs) (hl : vs.length = us.length)
    (h : ∀ w', w.grownBy w' (some b) → BoxN w' b t us → K (a.put o.dst undef) w') : o.wp P a w K Q := by
  refine wp_store_row t x y ho b us.toArray hx hy t vs.toArray hb (by simpa using hs) (by simp [hl]) (by simpa using h1) (h _ ⟨rfl, rfl, rfl, by simp [World.setRow], fun k _ hk => ?_⟩ ?_)
  · have hkb : k ≠ b := fun e => hk (by rw [e])
    simp [World.setRow, Array.getElem?_modify, Ne.symm hkb]
  · unfold BoxN at hb ⊢
    simp [World.setRow, Array.getElem?_modify, hb]
theorem wpList_boxStore {vs us : List Value} {x y : Operand} {b : Nat} (hs : (P.info? t).map (·.size) = some us.length) (ho : o.op = .store t x y) (hd : o.dst = none) (hgd : Region.wanted o (yielded ops a.tmps) = true) (hx : a.eval x = .pointer (some ⟨b, 0, none⟩)) (hy : a.eval y = .agg us.toArray) (h1 : us.all (·.oneCell') = true) (hb : BoxN w b t vs) (hl : vs.length = us.length)
    (h : ∀ w', w.grownBy w' (some b) → BoxN w' b t us → wpList P ops Q rest a w') : wpList P ops Q (o :: rest) a w :=
  BigFrame.wpList_want hgd fun _ hK => wp_boxStore hs ho hx hy h1 hb hl fun w' h3 h4 => hK _ _ (by rw [hd]; exact h w' h3 h4)
theorem wp_boxSet {t2 : TypeId} {vs : List Value} {x y : Operand} {b j : Nat} {u : Value} (ho : o.op = .store t2 x y) (hs : (P.info? t2).map (·.size) = some 1) (hx : a.eval x = .pointer (some ⟨b, j, none⟩)) (hy : a.eval y = u) (hu : u.cells = #[u]) (h1 : u.oneCell' = true) (hb : BoxN w b t vs) (hj : j < vs.length)
    (h : ∀ w', w.grownBy w' (some b) → BoxN w' b t (vs.set j u) → K (a.put o.dst undef) w') : o.wp P a w K Q := by
  have hc := hb.cell (i := j) (List.getElem?_eq_getElem hj)
  have hf := hb.frozen j
  refine wp_skip ?_ (h (w.setCell ⟨b, j, none⟩ u) ⟨rfl, rfl, rfl, by simp [World.setCell], fun k _ hk => heap_setCell_other _ ⟨b, j, none⟩ k _ fun e => hk (by rw [e])⟩ ?_)
  · simp only [execOp, ho, hx, hy]
    have hu' := hu
    unfold Value.cells at hu'
    simp [Instr.storeAt, storeVar, run_sizeOf' hs, storeCells, hu', run_store _ _ _ _ _ h1, hc, hf, Addr.add, go_sem]
  · unfold BoxN at hb ⊢
    simp only [World.setCell, Array.getElem?_modify, hb]
    simp
theorem wpList_boxSet {t2 : TypeId} {vs : List Value} {x y : Operand} {b j : Nat} {u : Value} (ho : o.op = .store t2 x y) (hd : o.dst = none) (hgd : Region.wanted o (yielded ops a.tmps) = true) (hs : (P.info? t2).map (·.size) = some 1) (hx : a.eval x = .pointer (some ⟨b, j, none⟩)) (hy : a.eval y = u) (hu : u.cells = #[u]) (h1 : u.oneCell' = true) (hb : BoxN w b t vs) (hj : j < vs.length)
    (h : ∀ w', w.grownBy w' (some b) → BoxN w' b t (vs.set j u) → wpList P ops Q rest a w') : wpList P ops Q (o :: rest) a w :=
  BigFrame.wpList_want hgd fun _ hK => wp_boxSet ho hs hx hy hu h1 hb hj fun w' h3 h4 => hK _ _ (by rw [hd]; exact h w' h3 h4)
theorem wp_load2 (hP : StP P t 2) {x : Operand} {b off : Nat} {u v : Value} (ho : o.op = .load t x) (hx : a.eval x = .pointer (some ⟨b, off, none⟩)) (h0 : w.cell? ⟨b, off, none⟩ = some u) (h1 : w.cell? ⟨b, off + 1, none⟩ = some v) (h : K (a.put o.dst (.agg #[u, v])) w) : o.wp P a w K Q := by
  obtain ⟨fs, hu, hfs, hf⟩ := hP.hu
  refine wp_run' ?_ h
  simp only [execOp, ho, hx]
  simp [Instr.loadAt, loadVar, isAgg, run_underlying hu, run_sizeOf' hP.hs, loadCellsFrom, Addr.add, h0, h1, go_sem]
theorem wp_load4 (hP : StP P t 4) {x : Operand} {b off : Nat} {u v r s : Value} (ho : o.op = .load t x) (hx : a.eval x = .pointer (some ⟨b, off, none⟩)) (h0 : w.cell? ⟨b, off, none⟩ = some u) (h1 : w.cell? ⟨b, off + 1, none⟩ = some v) (h2 : w.cell? ⟨b, off + 2, none⟩ = some r) (h3 : w.cell? ⟨b, off + 3, none⟩ = some s) (h : K (a.put o.dst (.agg #[u, v, r, s])) w) : o.wp P a w K Q := by
  obtain ⟨fs, hu, hfs, hf⟩ := hP.hu
  refine wp_run' ?_ h
  simp only [execOp, ho, hx]
  simp [Instr.loadAt, loadVar, isAgg, run_underlying hu, run_sizeOf' hP.hs, loadCellsFrom, Addr.add, h0, h1, h2, h3, go_sem]
end
end Go.Proofs.YtccoklhmbikfmaaDoor
namespace Go.Proofs.YtccoklhmbikfmaaDoor
section
variable {K α : Type} [DecidableEq K] (lt : K → K → Bool) (key : α → K)
def SrtE (l : List α) : Prop := l.Pairwise fun a b => lt (key a) (key b) = true
variable {lt key}
end
structure Wr where
  table : Int
  key : List UInt8
  gone : Bool
  val : List UInt8
deriving DecidableEq
structure Pq where
  key : List UInt8
  val : List UInt8
deriving DecidableEq
structure Dl where
  writes : List Wr
  marks : List Int
deriving DecidableEq
structure Sp where
  table : Int
  lo : List UInt8
  hi : List UInt8
  isOpen : Bool
deriving DecidableEq
def mayW (w : Wr) : Prop := 0 ≤ w.table ∧ w.table ≤ 3 ∧ w.key.length ≤ 16 ∧ w.val.length ≤ 32 ∧ (w.gone = true → w.val = [])
instance (w : Wr) : Decidable (mayW w) := by unfold mayW; exact inferInstance
def okM (n : Int) : Int → List Int → Prop
  | _, [] => True
  | l, m :: ms => l ≤ m ∧ m ≤ n ∧ okM n m ms
instance decM (n : Int) : ∀ l ms, Decidable (okM n l ms)
  | _, [] => isTrue trivial
  | l, m :: ms => by unfold okM; have := decM n m ms; exact inferInstance
def okD (d : Dl) : Prop := d.writes.length ≤ 20 ∧ d.marks.length ≤ 4 ∧ (∀ w ∈ d.writes, mayW w) ∧ okM d.writes.length 0 d.marks
instance (d : Dl) : Decidable (okD d) := by unfold okD; exact inferInstance
def inS (x : Sp) (k : List UInt8) : Bool := !ltB k x.lo && (x.isOpen || ltB k x.hi)
abbrev SrtQ (l : List Pq) : Prop := SrtE ltB Pq.key l
instance (l : List Pq) : Decidable (SrtQ l) := by unfold SrtQ SrtE; exact inferInstance
end Go.Proofs.YtccoklhmbikfmaaDoor
namespace Go.Proofs.YtccoklhmbikfmaaDoor
open Go.ChangeShapes Go.WideShapes Go.ChangeAt Go.RowKit Go.Deep Go.Joins
def W64 (s : Int) : Prop := -9223372036854775808 ≤ s ∧ s ≤ 9223372036854775807
theorem w64w {n : Int} (h : (Lit.int .i64 n).wf = true) : W64 n := by
  simp [Lit.wf, IntKind.min, IntKind.max, IntKind.signed, IntKind.bits] at h
  exact ⟨by omega, by omega⟩
def wrC (x : Wr) (k v : Value) : List Value := [.int .i64 x.table, k, .bool x.gone, v]
def Elt.wr : Elt Wr where
  size := 4
  pos := by omega
  R S w x vs := ∃ k v, vs = wrC x k v ∧ RdS S w k x.key ∧ RdS S w v x.val ∧ W64 x.table
  len := by rintro _ _ _ _ ⟨_, _, rfl, _⟩; rfl
  keep := by rintro _ _ _ _ _ ⟨k, v, rfl, h, h1, h2⟩ hk; exact ⟨k, v, rfl, h.keep hk, h1.keep hk, h2⟩
  weak := by rintro _ _ _ _ _ ⟨k, v, rfl, h, h1, h2⟩ hk; exact ⟨k, v, rfl, h.weak hk, h1.weak hk, h2⟩
  fit := by rintro _ _ _ _ ⟨k, v, rfl, h, h1, h2⟩; exact ⟨k, v, rfl, h.fit, h1.fit, h2⟩
  one := by
    rintro _ _ _ _ ⟨k, v, rfl, h, h1, _⟩ u hu
    have h3 := h.one
    have h4 := h1.one
    simp only [wrC, List.mem_cons, List.not_mem_nil, or_false] at hu
    rcases hu with rfl | rfl | rfl | rfl
    · rfl
    · exact h3
    · rfl
    · exact h4
def Elt.int : Elt Int where
  size := 1
  pos := by omega
  R _ _ x vs := vs = [.int .i64 x] ∧ W64 x
  len := by rintro _ _ _ _ ⟨rfl, _⟩; rfl
  keep := by rintro _ _ _ _ _ h _; exact h
  weak := by rintro _ _ _ _ _ h _; exact h
  fit := by rintro _ _ _ _ h; exact h
  one := by
    rintro _ _ _ _ ⟨rfl, _⟩ u hu
    simp only [List.mem_cons, List.not_mem_nil, or_false] at hu
    subst hu; rfl
theorem inP : LoP Tryd.prog 34 3 1 := ⟨⟨by kernel_rfl, by kernel_rfl⟩, .int .i64 0, 8, by kernel_rfl, rfl, by omega⟩
section
variable {S S' : Nat → Prop} {w w' : World} {v : Value}
def RdSp (S : Nat → Prop) (w : World) (v : Value) (x : Sp) : Prop := ∃ a c a2 c2, v = .agg #[.int .i64 x.table, .slice a x.lo.length c, .slice a2 x.hi.length c2, .bool x.isOpen] ∧ RdS S w (.slice a x.lo.length c) x.lo ∧ RdS S w (.slice a2 x.hi.length c2) x.hi ∧ W64 x.table
theorem RdSp.below {x : Sp} (h : RdSp S w v x) (hb : Below w.heap.size w w') : RdSp S w' v x := by
  obtain ⟨a, c, a2, c2, e, h1, h2, h3⟩ := h
  exact ⟨a, c, a2, c2, e, h1.below hb, h2.below hb, h3⟩
end
end Go.Proofs.YtccoklhmbikfmaaDoor
namespace Go.Proofs.YtccoklhmbikfmaaDoor
def mayS (x : Sp) : Prop := 0 ≤ x.table ∧ x.table ≤ 3 ∧ x.lo.length ≤ 17 ∧ x.hi.length ≤ 17 ∧ (x.isOpen = true → x.hi = [])
instance (x : Sp) : Decidable (mayS x) := by unfold mayS; exact inferInstance
def emptyS (x : Sp) : Bool := !x.isOpen && !ltB x.lo x.hi
def inT (x : Sp) (t : Int) (k : List UInt8) : Bool := decide (x.table = t) && inS x k
def meetsS (a b : Sp) : Bool := (inT a a.table a.lo && inT b a.table a.lo) || (inT a a.table b.lo && inT b a.table b.lo)
def coversS (a b : Sp) : Bool := emptyS b || (decide (a.table = b.table) && !ltB b.lo a.lo && (a.isOpen || (!b.isOpen && !ltB a.hi b.hi)))
def pointS (t : Int) (k : List UInt8) : Sp := ⟨t, k, k ++ [0], false⟩
def shortS (x : Sp) : Prop := x.lo.length ≤ 100 ∧ x.hi.length ≤ 100
instance (x : Sp) : Decidable (shortS x) := by unfold shortS; exact inferInstance
def fewS (l : List Sp) : Prop := l.length ≤ 100 ∧ ∀ x ∈ l, x.lo.length ≤ 100 ∧ x.hi.length ≤ 100
instance (l : List Sp) : Decidable (fewS l) := by unfold fewS; exact inferInstance
def okA (l : List Sp) (x : Sp) (m : Int) : Prop := mayS x ∧ (∀ y ∈ l, mayS y) ∧ 1 ≤ m ∧ m ≤ 100
instance (l : List Sp) (x : Sp) (m : Int) : Decidable (okA l x m) := by unfold okA; exact inferInstance
theorem lt_of_leB {a b c : List UInt8} (h1 : ltB b a = false) (h2 : ltB b c = true) : ltB a c = true := by
  by_cases e : a = b
  · subst e; exact h2
  · exact ltB_trans (ltB_total (fun e2 => e e2.symm) h1) h2
theorem inS_iff {x : Sp} {k : List UInt8} : inS x k = true ↔ ltB k x.lo = false ∧ (x.isOpen = true ∨ ltB k x.hi = true) := by
  unfold inS; simp
theorem inT_iff {x : Sp} {t : Int} {k : List UInt8} : inT x t k = true ↔ x.table = t ∧ inS x k = true := by
  unfold inT; simp
theorem inS_lo {x : Sp} {k : List UInt8} (h : inS x k = true) : inS x x.lo = true := by
  rw [inS_iff] at h ⊢
  exact ⟨ltB_irrefl _, h.2.imp id fun h2 => lt_of_leB h.1 h2⟩
theorem meets_iff {a b : Sp} : meetsS a b = true ↔ a.table = b.table ∧ ∃ k, inS a k = true ∧ inS b k = true := by
  unfold meetsS
  simp only [Bool.or_eq_true, Bool.and_eq_true, inT_iff]
  constructor
  · rintro (⟨⟨_, h1⟩, h2, h3⟩ | ⟨⟨_, h1⟩, h2, h3⟩)
    · exact ⟨h2.symm, _, h1, h3⟩
    · exact ⟨h2.symm, _, h1, h3⟩
  · rintro ⟨ht, k, h1, h2⟩
    have ha := inS_lo h1
    have hb := inS_lo h2
    rw [inS_iff] at h1 h2
    by_cases hl : ltB a.lo b.lo = true
    · refine .inr ⟨⟨trivial, ?_⟩, ht.symm, hb⟩
      rw [inS_iff]
      exact ⟨ltB_asymm hl, h1.2.imp id fun h => lt_of_leB h2.1 h⟩
    · have hl := eq_false_of_ne_true hl
      refine .inl ⟨⟨trivial, ha⟩, ht.symm, ?_⟩
      rw [inS_iff]
      exact ⟨hl, h2.2.imp id fun h => lt_of_leB h1.1 h⟩
theorem meets_comm (a b : Sp) : meetsS a b = meetsS b a := by
  rw [Bool.eq_iff_iff, meets_iff, meets_iff]
  constructor
  · rintro ⟨h, k, h1, h2⟩; exact ⟨h.symm, k, h2, h1⟩
  · rintro ⟨h, k, h1, h2⟩; exact ⟨h.symm, k, h2, h1⟩
theorem covers_iff {a b : Sp} : coversS a b = true ↔ emptyS b = true ∨ (a.table = b.table ∧ ltB b.lo a.lo = false ∧ (a.isOpen = true ∨ b.isOpen = false ∧ ltB a.hi b.hi = false)) := by
  unfold coversS; simp [and_assoc]
theorem covers_self (a : Sp) : coversS a a = true := by
  rw [covers_iff]
  refine .inr ⟨rfl, ltB_irrefl _, ?_⟩
  cases h : a.isOpen with
  | true => exact .inl rfl
  | false => exact .inr ⟨rfl, ltB_irrefl _⟩
end Go.Proofs.YtccoklhmbikfmaaDoor
namespace Go.Proofs.YtccoklhmbikfmaaDoor
open Go.ChangeShapes Go.WideShapes Go.ChangeAt Go.RowKit Go.Deep Go.Joins
def spC (x : Sp) (k v : Value) : List Value := [.int .i64 x.table, k, v, .bool x.isOpen]
def Elt.sp : Elt Sp where
  size := 4
  pos := by omega
  R S w x vs := ∃ k v, vs = spC x k v ∧ RdS S w k x.lo ∧ RdS S w v x.hi ∧ W64 x.table
  len := by rintro _ _ _ _ ⟨_, _, rfl, _⟩; rfl
  keep := by rintro _ _ _ _ _ ⟨k, v, rfl, h, h1, h2⟩ hk; exact ⟨k, v, rfl, h.keep hk, h1.keep hk, h2⟩
  weak := by rintro _ _ _ _ _ ⟨k, v, rfl, h, h1, h2⟩ hk; exact ⟨k, v, rfl, h.weak hk, h1.weak hk, h2⟩
  fit := by rintro _ _ _ _ ⟨k, v, rfl, h, h1, h2⟩; exact ⟨k, v, rfl, h.fit, h1.fit, h2⟩
  one := by
    rintro _ _ _ _ ⟨k, v, rfl, h, h1, _⟩ u hu
    have h3 := h.one
    have h4 := h1.one
    simp only [spC, List.mem_cons, List.not_mem_nil, or_false] at hu
    rcases hu with rfl | rfl | rfl | rfl
    · rfl
    · exact h3
    · exact h4
    · rfl
theorem spS : StP Tryd.prog 27 4 := StP.of (by kernel_rfl)
set_option maxRecDepth 4000 in
theorem opens_sp : Opens Tryd.prog 27 Elt.sp := by
  intro H enc w base held fuel cs x h
  obtain ⟨y0, y1, y2, y3, n, _, hl, h0, h1, h2, h3⟩ := trod_struct4 Tryd.underlying27 h
  have hc : cs.length = 4 := hl.trans (by kernel_rfl)
  match cs, hc with
  | [u, v, r, s], _ =>
    obtain ⟨m, hm, _, hw⟩ := DataW.trod_int (by kernel_rfl : Tryd.prog.underlying 3 = some (.int .i64)) (h0 : DataW.trod enc Tryd.prog w base (fun _ => true) held n 3 [u] = some y0)
    obtain ⟨xs, v', hv, hR⟩ := Opens.bytes (P := Tryd.prog) (t := 25) (e := 5) (by kernel_rfl) (by kernel_rfl) (by kernel_rfl) (h1 : DataW.trod enc Tryd.prog w base (fun _ => true) held n 25 [v] = some y1)
    obtain ⟨xs2, v2, hv2, hR2⟩ := Opens.bytes (P := Tryd.prog) (t := 25) (e := 5) (by kernel_rfl) (by kernel_rfl) (by kernel_rfl) (h2 : DataW.trod enc Tryd.prog w base (fun _ => true) held n 25 [r] = some y2)
    obtain ⟨g, hg, _⟩ := DataW.trod_bool (by kernel_rfl : Tryd.prog.underlying 4 = some .bool) (h3 : DataW.trod enc Tryd.prog w base (fun _ => true) held n 4 [s] = some y3)
    cases hm; cases hg; cases hv; cases hv2
    exact ⟨⟨m, xs, xs2, g⟩, v, r, rfl, hR, hR2, w64w hw⟩
def SpEnd (w : World) (x : Sp) (e : Ending) (w' : World) : Prop := ∃ v, e = .returned v ∧ RdSp (fun k => w.heap.size ≤ k ∧ k < w'.heap.size) w' v x ∧ Below w.heap.size w w'
theorem spBox (w : World) (t : TypeId) (us : List Value) : ∃ W, W = w.alloc (.cells us.toArray t) ∧ Below w.heap.size w W ∧ BoxN W w.heap.size t us ∧ W.heap.size = w.heap.size + 1 :=
  ⟨_, rfl, (Below.refl _ _).alloc (Nat.le_refl _) _, BoxN.new _ _ _, by simp only [World.alloc, Array.size_push]⟩
theorem spBoxes2 (w : World) (t t2 : TypeId) (us vs : List Value) : ∃ W, W = (w.alloc (.cells us.toArray t)).alloc (.cells vs.toArray t2) ∧ Below w.heap.size w W ∧ BoxN W w.heap.size t us ∧ BoxN W (w.heap.size + 1) t2 vs ∧ W.heap.size = w.heap.size + 1 + 1 := by
  have h1 : Below w.heap.size w (w.alloc (.cells us.toArray t)) := (Below.refl _ _).alloc (Nat.le_refl _) _
  have hs : (w.alloc (.cells us.toArray t)).heap.size = w.heap.size + 1 := by simp only [World.alloc, Array.size_push]
  have hb := BoxN.new (w.alloc (.cells us.toArray t)) t2 vs
  rw [hs] at hb
  exact ⟨_, rfl, h1.alloc h1.size _, (BoxN.new w t us).below ((Below.refl _ _).alloc (Nat.le_refl _) _) (by rw [hs]; omega), hb, by simp only [World.alloc, Array.size_push]⟩
theorem spBoxes3 (w : World) (t t2 t3 : TypeId) (us vs ys : List Value) : ∃ W, W = ((w.alloc (.cells us.toArray t)).alloc (.cells vs.toArray t2)).alloc (.cells ys.toArray t3) ∧ Below w.heap.size w W ∧ BoxN W w.heap.size t us ∧ BoxN W (w.heap.size + 1) t2 vs ∧ BoxN W (w.heap.size + 1 + 1) t3 ys ∧ W.heap.size = w.heap.size + 1 + 1 + 1 := by
  obtain ⟨V, hV, h1, h2, h3, h4⟩ := spBoxes2 w t t2 us vs
  have hb := BoxN.new V t3 ys
  have hg : Below V.heap.size V (V.alloc (.cells ys.toArray t3)) := (Below.refl _ _).alloc (Nat.le_refl _) _
  rw [h4] at hb
  exact ⟨_, by rw [hV], h1.trans (hg.mono h1.size), h2.below hg h2.lt, h3.below hg h3.lt, hb, by simp only [World.alloc, Array.size_push, h4]⟩
end Go.Proofs.YtccoklhmbikfmaaDoor
namespace Go.Proofs.YtccoklhmbikfmaaDoor
open Go.RowKit Go.Shelf
theorem str_eqS {a b : List UInt8} : ((strOf a).toList == (strOf b).toList) = decide (a = b) := by
  rw [show (strOf a).toList = a by simp [strOf], show (strOf b).toList = b by simp [strOf]]
  by_cases h : a = b <;> simp [h]
theorem cmp_le (a b : List UInt8) : decide (Lib.compareBytes a b ≤ 0) = !ltB b a := by
  have h1 := cmp_lt a b
  have h2 := cmp_eq a b
  cases h : ltB a b with
  | true =>
    rw [h] at h1
    rw [ltB_asymm h]
    have := of_decide_eq_true h1
    exact decide_eq_true (by omega)
  | false =>
    rw [h] at h1
    have h3 := of_decide_eq_false h1
    by_cases e : a = b
    · rw [decide_eq_true e] at h2
      have := beq_iff_eq.1 h2
      subst e
      rw [ltB_irrefl]
      exact decide_eq_true (by omega)
    · rw [decide_eq_false e] at h2
      have := beq_eq_false_iff_ne.1 h2
      rw [ltB_total e h]
      exact decide_eq_false (by omega)
theorem sp_ext {x y : Sp} (h1 : x.table = y.table) (h2 : x.lo = y.lo) (h3 : x.hi = y.hi) (h4 : x.isOpen = y.isOpen) : x = y := by
  cases x; cases y
  simp only at h1 h2 h3 h4
  subst h1 h2 h3 h4
  rfl
set_option maxRecDepth 100000 in
set_option maxHeartbeats 4000000 in
theorem sCheck_any (w : World) {S : Nat → Prop} {v : Value} {x : Sp} (hx : RdSp S w v x) :
    Calls Tryd.prog 53 #[v] w fun e w' => e = .returned (.bool (decide (mayS x))) ∧ Below w.heap.size w w' := by
  obtain ⟨a1, a2, a3, a4, rfl, hlx, hhx, htx⟩ := hx
  have m1x : x.lo.length ≤ 9223372036854775807 := by have := hlx.len; unfold maxLen at this; omega
  have m2x : x.hi.length ≤ 9223372036854775807 := by have := hhx.len; unfold maxLen at this; omega
  obtain ⟨W, hW, q, Bx, hsz⟩ := spBox w 27 [.int .i64 x.table, .slice a1 x.lo.length a2, .slice a3 x.hi.length a4, .bool x.isOpen]
  clear hsz
  go_enter Tryd.func53, Tryd.ntmps53
  go_upto_region 1 with (fail)
  rw [show w.alloc (.cells #[.int .i64 x.table, .slice a1 x.lo.length a2, .slice a3 x.hi.length a4, .bool x.isOpen] 27) = W from hW.symm]
  clear hW
  have cx0 := Bx.cell (i := 0) rfl
  have cx1 := Bx.cell (i := 1) rfl
  have cx2 := Bx.cell (i := 2) rfl
  have cx3 := Bx.cell (i := 3) rfl
  have rlx := hlx.below q
  have rhx := hhx.below q
  by_cases h_t0 : 0 ≤ x.table
  · have dt0a : decide (0 ≤ x.table) = true := decide_eq_true (by omega)
    have dt0b : decide (x.table < 0) = false := decide_eq_false (by omega)
    by_cases h_t3 : x.table ≤ 3
    · have dt3a : decide (x.table ≤ 3) = true := decide_eq_true (by omega)
      have dt3b : decide (4 ≤ x.table) = false := decide_eq_false (by omega)
      by_cases h_lo : x.lo.length ≤ 17
      · have dloa : decide ((x.lo.length : Int) ≤ 17) = true := decide_eq_true (by omega)
        have dlob : decide ((17 : Int) < (x.lo.length : Int)) = false := decide_eq_false (by omega)
        by_cases h_hi : x.hi.length ≤ 17
        · have dhia : decide ((x.hi.length : Int) ≤ 17) = true := decide_eq_true (by omega)
          have dhib : decide ((17 : Int) < (x.hi.length : Int)) = false := decide_eq_false (by omega)
          cases h_op : x.isOpen with
          | true =>
            rw [h_op] at cx3
            by_cases h_h0 : x.hi.length = 0
            · have d0a : ((x.hi.length : Int) == 0) = true := beq_iff_eq.2 (by omega)
              have d0b : decide ((x.hi.length : Int) = 0) = true := decide_eq_true (by omega)
              have H := Lib.hid (show decide (mayS x) = true from decide_eq_true ⟨by omega, by omega, by omega, by omega, fun _ => List.eq_nil_of_length_eq_zero (by omega)⟩)
              clear h_t0 h_t3 h_lo h_hi h_op h_h0
              go_wp2_with fail
              go_ret
              exact ⟨by first | (rw [H.out]; done) | (rw [H.out]; rfl), q⟩
            · have d0a : ((x.hi.length : Int) == 0) = false := beq_eq_false_iff_ne.2 (by omega)
              have d0b : decide ((x.hi.length : Int) = 0) = false := decide_eq_false (by omega)
              have H := Lib.hid (show decide (mayS x) = false from decide_eq_false fun h => by have := h.2.2.2.2 h_op; rw [this] at h_h0; simp at h_h0)
              clear h_t0 h_t3 h_lo h_hi h_op h_h0
              go_wp2_with fail
              go_ret
              exact ⟨by first | (rw [H.out]; done) | (rw [H.out]; rfl), q⟩
          | false =>
            rw [h_op] at cx3
            have H := Lib.hid (show decide (mayS x) = true from decide_eq_true ⟨by omega, by omega, by omega, by omega, fun h => by rw [h_op] at h; cases h⟩)
            clear h_t0 h_t3 h_lo h_hi h_op
            go_wp2_with fail
            go_ret
            exact ⟨by first | (rw [H.out]; done) | (rw [H.out]; rfl), q⟩
        · have dhia : decide ((x.hi.length : Int) ≤ 17) = false := decide_eq_false (by omega)
          have dhib : decide ((17 : Int) < (x.hi.length : Int)) = true := decide_eq_true (by omega)
          have H := Lib.hid (show decide (mayS x) = false from decide_eq_false fun h => by have := h.2.2.2.1; omega)
          clear h_t0 h_t3 h_lo h_hi
          go_wp2_with fail
          go_ret
          exact ⟨by first | (rw [H.out]; done) | (rw [H.out]; rfl), q⟩
      · have dloa : decide ((x.lo.length : Int) ≤ 17) = false := decide_eq_false (by omega)
        have dlob : decide ((17 : Int) < (x.lo.length : Int)) = true := decide_eq_true (by omega)
        have H := Lib.hid (show decide (mayS x) = false from decide_eq_false fun h => by have := h.2.2.1; omega)
        clear h_t0 h_t3 h_lo
        go_wp2_with fail
        go_ret
        exact ⟨by first | (rw [H.out]; done) | (rw [H.out]; rfl), q⟩
    · have dt3a : decide (x.table ≤ 3) = false := decide_eq_false (by omega)
      have dt3b : decide (4 ≤ x.table) = true := decide_eq_true (by omega)
      have H := Lib.hid (show decide (mayS x) = false from decide_eq_false fun h => by have := h.2.1; omega)
      clear h_t0 h_t3
      go_wp2_with fail
      go_ret
      exact ⟨by first | (rw [H.out]; done) | (rw [H.out]; rfl), q⟩
  · have dt0a : decide (0 ≤ x.table) = false := decide_eq_false (by omega)
    have dt0b : decide (x.table < 0) = true := decide_eq_true (by omega)
    have H := Lib.hid (show decide (mayS x) = false from decide_eq_false fun h => by have := h.1; omega)
    clear h_t0
    go_wp2_with fail
    go_ret
    exact ⟨by first | (rw [H.out]; done) | (rw [H.out]; rfl), q⟩
set_option maxRecDepth 100000 in
set_option maxHeartbeats 4000000 in
theorem sEmpty_any (w : World) {S : Nat → Prop} {v : Value} {x : Sp} (hx : RdSp S w v x) :
    Calls Tryd.prog 54 #[v] w fun e w' => e = .returned (.bool (emptyS x)) ∧ Below w.heap.size w w' := by
  obtain ⟨a1, a2, a3, a4, rfl, hlx, hhx, htx⟩ := hx
  have m1x : x.lo.length ≤ 9223372036854775807 := by have := hlx.len; unfold maxLen at this; omega
  have m2x : x.hi.length ≤ 9223372036854775807 := by have := hhx.len; unfold maxLen at this; omega
  obtain ⟨W, hW, q, Bx, hsz⟩ := spBox w 27 [.int .i64 x.table, .slice a1 x.lo.length a2, .slice a3 x.hi.length a4, .bool x.isOpen]
  clear hsz
  go_enter Tryd.func54, Tryd.ntmps54
  go_upto_region 1 with (fail)
  rw [show w.alloc (.cells #[.int .i64 x.table, .slice a1 x.lo.length a2, .slice a3 x.hi.length a4, .bool x.isOpen] 27) = W from hW.symm]
  clear hW
  have cx0 := Bx.cell (i := 0) rfl
  have cx1 := Bx.cell (i := 1) rfl
  have cx2 := Bx.cell (i := 2) rfl
  have cx3 := Bx.cell (i := 3) rfl
  have rlx := hlx.below q
  have rhx := hhx.below q
  cases h_op : x.isOpen with
  | true =>
    rw [h_op] at cx3
    have H := Lib.hid (show emptyS x = false from by unfold emptyS; simp [h_op])
    clear h_op
    go_wp2_with fail
    go_ret
    exact ⟨by first | (rw [H.out]; done) | (rw [H.out]; rfl), q⟩
  | false =>
    rw [h_op] at cx3
    cases h_lh : ltB x.lo x.hi with
    | true =>
      have dlh : decide (Lib.compareBytes x.hi x.lo ≤ 0) = false := by rw [cmp_le, h_lh]; rfl
      have H := Lib.hid (show emptyS x = false from by unfold emptyS; simp [h_op, h_lh])
      clear h_op h_lh
      go_wp2_with fail
      refine (compare_any _ rhx rlx).mono ?_
      rintro e _ ⟨rfl, rfl⟩
      go_wp2_with fail
      go_ret
      exact ⟨by first | (rw [H.out]; done) | (rw [H.out]; rfl), q⟩
    | false =>
      have dlh : decide (Lib.compareBytes x.hi x.lo ≤ 0) = true := by rw [cmp_le, h_lh]; rfl
      have H := Lib.hid (show emptyS x = true from by unfold emptyS; simp [h_op, h_lh])
      clear h_op h_lh
      go_wp2_with fail
      refine (compare_any _ rhx rlx).mono ?_
      rintro e _ ⟨rfl, rfl⟩
      go_wp2_with fail
      go_ret
      exact ⟨by first | (rw [H.out]; done) | (rw [H.out]; rfl), q⟩
set_option maxRecDepth 100000 in
set_option maxHeartbeats 4000000 in
theorem sIn_any (w : World) {S S2 : Nat → Prop} {v : Value} {x : Sp} {t : Int} {A : Option Addr} {n C : Nat} {k : List UInt8} (hx : RdSp S w v x) (hk : RdS S2 w (.slice A n C) k) :
    Calls Tryd.prog 60 #[v, .int .i64 t, .slice A n C] w fun e w' => e = .returned (.bool (inT x t k)) ∧ Below w.heap.size w w' := by
  obtain ⟨a1, a2, a3, a4, rfl, hlx, hhx, htx⟩ := hx
  have m1x : x.lo.length ≤ 9223372036854775807 := by have := hlx.len; unfold maxLen at this; omega
  have m2x : x.hi.length ≤ 9223372036854775807 := by have := hhx.len; unfold maxLen at this; omega
  obtain ⟨W, hW, q, Bx, hsz⟩ := spBox w 27 [.int .i64 x.table, .slice a1 x.lo.length a2, .slice a3 x.hi.length a4, .bool x.isOpen]
  clear hsz
  go_enter Tryd.func60, Tryd.ntmps60
  go_upto_region 1 with (fail)
  rw [show w.alloc (.cells #[.int .i64 x.table, .slice a1 x.lo.length a2, .slice a3 x.hi.length a4, .bool x.isOpen] 27) = W from hW.symm]
  clear hW
  have cx0 := Bx.cell (i := 0) rfl
  have cx1 := Bx.cell (i := 1) rfl
  have cx2 := Bx.cell (i := 2) rfl
  have cx3 := Bx.cell (i := 3) rfl
  have rlx := hlx.below q
  have rhx := hhx.below q
  have rk := hk.below q
  by_cases h_tb : x.table = t
  · have datb : (x.table == t) = true := beq_iff_eq.2 h_tb
    have dbtb : decide (x.table = t) = true := decide_eq_true h_tb
    have dctb : (x.table = t) = True := eq_true h_tb
    have ddtb : (x.table != t) = false := by rw [bne_eq_false_iff_eq]; exact h_tb
    cases h_kl : ltB k x.lo with
    | true =>
      have dkl : decide (0 ≤ Lib.compareBytes k x.lo) = false := by rw [cmp_ge, h_kl]; rfl
      have H := Lib.hid (show inT x t k = false from by unfold inT inS; simp [h_tb, h_kl])
      clear h_tb h_kl
      go_wp2_with fail
      refine (compare_any _ rk rlx).mono ?_
      rintro e _ ⟨rfl, rfl⟩
      go_wp2_with fail
      go_ret
      exact ⟨by first | (rw [H.out]; done) | (rw [H.out]; rfl), q⟩
    | false =>
      have dkl : decide (0 ≤ Lib.compareBytes k x.lo) = true := by rw [cmp_ge, h_kl]; rfl
      cases h_op : x.isOpen with
      | true =>
        rw [h_op] at cx3
        have H := Lib.hid (show inT x t k = true from by unfold inT inS; simp [h_tb, h_kl, h_op])
        clear h_tb h_kl h_op
        go_wp2_with fail
        refine (compare_any _ rk rlx).mono ?_
        rintro e _ ⟨rfl, rfl⟩
        go_wp2_with fail
        go_ret
        exact ⟨by first | (rw [H.out]; done) | (rw [H.out]; rfl), q⟩
      | false =>
        rw [h_op] at cx3
        cases h_kh : ltB k x.hi with
        | true =>
          have dkh : decide (Lib.compareBytes k x.hi < 0) = true := (cmp_lt _ _).trans h_kh
          have H := Lib.hid (show inT x t k = true from by unfold inT inS; simp [h_tb, h_kl, h_op, h_kh])
          clear h_tb h_kl h_op h_kh
          go_wp2_with fail
          refine (compare_any _ rk rlx).mono ?_
          rintro e _ ⟨rfl, rfl⟩
          go_wp2_with fail
          refine (compare_any _ rk rhx).mono ?_
          rintro e _ ⟨rfl, rfl⟩
          go_wp2_with fail
          go_ret
          exact ⟨by first | (rw [H.out]; done) | (rw [H.out]; rfl), q⟩
        | false =>
          have dkh : decide (Lib.compareBytes k x.hi < 0) = false := (cmp_lt _ _).trans h_kh
          have H := Lib.hid (show inT x t k = false from by unfold inT inS; simp [h_tb, h_kl, h_op, h_kh])
          clear h_tb h_kl h_op h_kh
          go_wp2_with fail
          refine (compare_any _ rk rlx).mono ?_
          rintro e _ ⟨rfl, rfl⟩
          go_wp2_with fail
          refine (compare_any _ rk rhx).mono ?_
          rintro e _ ⟨rfl, rfl⟩
          go_wp2_with fail
          go_ret
          exact ⟨by first | (rw [H.out]; done) | (rw [H.out]; rfl), q⟩
  · have datb : (x.table == t) = false := beq_eq_false_iff_ne.2 h_tb
    have dbtb : decide (x.table = t) = false := decide_eq_false h_tb
    have dctb : (x.table = t) = False := eq_false h_tb
    have ddtb : (x.table != t) = true := bne_iff_ne.2 h_tb
    have H := Lib.hid (show inT x t k = false from by unfold inT inS; simp [h_tb])
    clear h_tb
    go_wp2_with fail
    go_ret
    exact ⟨by first | (rw [H.out]; done) | (rw [H.out]; rfl), q⟩
set_option maxRecDepth 100000 in
set_option maxHeartbeats 4000000 in
theorem rOne_any (w : World) {S S2 : Nat → Prop} {u v : Value} {x y : Sp} (hx : RdSp S w u x) (hy : RdSp S2 w v y) :
    Calls Tryd.prog 67 #[u, v] w fun e w' => e = .returned (.bool (decide (x = y))) ∧ Below w.heap.size w w' := by
  obtain ⟨a1, a2, a3, a4, rfl, hlx, hhx, htx⟩ := hx
  obtain ⟨b1, b2, b3, b4, rfl, hly, hhy, hty⟩ := hy
  have m1x : x.lo.length ≤ 9223372036854775807 := by have := hlx.len; unfold maxLen at this; omega
  have m2x : x.hi.length ≤ 9223372036854775807 := by have := hhx.len; unfold maxLen at this; omega
  have m1y : y.lo.length ≤ 9223372036854775807 := by have := hly.len; unfold maxLen at this; omega
  have m2y : y.hi.length ≤ 9223372036854775807 := by have := hhy.len; unfold maxLen at this; omega
  obtain ⟨W, hW, q, Bx, By, hsz⟩ := spBoxes2 w 27 27 [.int .i64 x.table, .slice a1 x.lo.length a2, .slice a3 x.hi.length a4, .bool x.isOpen] [.int .i64 y.table, .slice b1 y.lo.length b2, .slice b3 y.hi.length b4, .bool y.isOpen]
  clear hsz
  go_enter Tryd.func67, Tryd.ntmps67
  go_upto_region 1 with (fail)
  rw [show (w.alloc (.cells #[.int .i64 x.table, .slice a1 x.lo.length a2, .slice a3 x.hi.length a4, .bool x.isOpen] 27)).alloc (.cells #[.int .i64 y.table, .slice b1 y.lo.length b2, .slice b3 y.hi.length b4, .bool y.isOpen] 27) = W from hW.symm]
  clear hW
  have cx0 := Bx.cell (i := 0) rfl
  have cx1 := Bx.cell (i := 1) rfl
  have cx2 := Bx.cell (i := 2) rfl
  have cx3 := Bx.cell (i := 3) rfl
  have rlx := hlx.below q
  have rhx := hhx.below q
  have cy0 := By.cell (i := 0) rfl
  have cy1 := By.cell (i := 1) rfl
  have cy2 := By.cell (i := 2) rfl
  have cy3 := By.cell (i := 3) rfl
  have rly := hly.below q
  have rhy := hhy.below q
  by_cases h_tb : x.table = y.table
  · have datb : (x.table == y.table) = true := beq_iff_eq.2 h_tb
    have dbtb : decide (x.table = y.table) = true := decide_eq_true h_tb
    have dctb : (x.table = y.table) = True := eq_true h_tb
    have ddtb : (x.table != y.table) = false := by rw [bne_eq_false_iff_eq]; exact h_tb
    by_cases h_lo : x.lo = y.lo
    · have dlo : ((strOf x.lo).toList == (strOf y.lo).toList) = true := by rw [str_eqS]; exact decide_eq_true h_lo
      by_cases h_hi : x.hi = y.hi
      · have dhi : ((strOf x.hi).toList == (strOf y.hi).toList) = true := by rw [str_eqS]; exact decide_eq_true h_hi
        cases h_ox : x.isOpen with
        | true =>
          rw [h_ox] at cx3
          cases h_oy : y.isOpen with
          | true =>
            rw [h_oy] at cy3
            have H := Lib.hid (show decide (x = y) = true from decide_eq_true (sp_ext h_tb h_lo h_hi (h_ox.trans h_oy.symm)))
            clear h_tb h_lo h_hi h_ox h_oy
            go_wp2_with (refine wpList_conv (x := .tmp 12) byP rfl rfl rfl rlx.rd ?_; go_wp2_with (refine wpList_conv (x := .tmp 15) byP rfl rfl rfl rly.rd ?_; go_wp2_with (refine wpList_conv (x := .tmp 21) byP rfl rfl rfl rhx.rd ?_; go_wp2_with (refine wpList_conv (x := .tmp 24) byP rfl rfl rfl rhy.rd ?_; go_wp2_with fail))))
            go_ret
            exact ⟨by first | (rw [H.out]; done) | (rw [H.out]; rfl), q⟩
          | false =>
            rw [h_oy] at cy3
            have H := Lib.hid (show decide (x = y) = false from decide_eq_false (fun h => by rw [h, h_oy] at h_ox; cases h_ox))
            clear h_tb h_lo h_hi h_ox h_oy
            go_wp2_with (refine wpList_conv (x := .tmp 12) byP rfl rfl rfl rlx.rd ?_; go_wp2_with (refine wpList_conv (x := .tmp 15) byP rfl rfl rfl rly.rd ?_; go_wp2_with (refine wpList_conv (x := .tmp 21) byP rfl rfl rfl rhx.rd ?_; go_wp2_with (refine wpList_conv (x := .tmp 24) byP rfl rfl rfl rhy.rd ?_; go_wp2_with fail))))
            go_ret
            exact ⟨by first | (rw [H.out]; done) | (rw [H.out]; rfl), q⟩
        | false =>
          rw [h_ox] at cx3
          cases h_oy : y.isOpen with
          | true =>
            rw [h_oy] at cy3
            have H := Lib.hid (show decide (x = y) = false from decide_eq_false (fun h => by rw [h, h_oy] at h_ox; cases h_ox))
            clear h_tb h_lo h_hi h_ox h_oy
            go_wp2_with (refine wpList_conv (x := .tmp 12) byP rfl rfl rfl rlx.rd ?_; go_wp2_with (refine wpList_conv (x := .tmp 15) byP rfl rfl rfl rly.rd ?_; go_wp2_with (refine wpList_conv (x := .tmp 21) byP rfl rfl rfl rhx.rd ?_; go_wp2_with (refine wpList_conv (x := .tmp 24) byP rfl rfl rfl rhy.rd ?_; go_wp2_with fail))))
            go_ret
            exact ⟨by first | (rw [H.out]; done) | (rw [H.out]; rfl), q⟩
          | false =>
            rw [h_oy] at cy3
            have H := Lib.hid (show decide (x = y) = true from decide_eq_true (sp_ext h_tb h_lo h_hi (h_ox.trans h_oy.symm)))
            clear h_tb h_lo h_hi h_ox h_oy
            go_wp2_with (refine wpList_conv (x := .tmp 12) byP rfl rfl rfl rlx.rd ?_; go_wp2_with (refine wpList_conv (x := .tmp 15) byP rfl rfl rfl rly.rd ?_; go_wp2_with (refine wpList_conv (x := .tmp 21) byP rfl rfl rfl rhx.rd ?_; go_wp2_with (refine wpList_conv (x := .tmp 24) byP rfl rfl rfl rhy.rd ?_; go_wp2_with fail))))
            go_ret
            exact ⟨by first | (rw [H.out]; done) | (rw [H.out]; rfl), q⟩
      · have dhi : ((strOf x.hi).toList == (strOf y.hi).toList) = false := by rw [str_eqS]; exact decide_eq_false h_hi
        have H := Lib.hid (show decide (x = y) = false from decide_eq_false (fun h => h_hi (by rw [h])))
        clear h_tb h_lo h_hi
        go_wp2_with (refine wpList_conv (x := .tmp 12) byP rfl rfl rfl rlx.rd ?_; go_wp2_with (refine wpList_conv (x := .tmp 15) byP rfl rfl rfl rly.rd ?_; go_wp2_with (refine wpList_conv (x := .tmp 21) byP rfl rfl rfl rhx.rd ?_; go_wp2_with (refine wpList_conv (x := .tmp 24) byP rfl rfl rfl rhy.rd ?_; go_wp2_with fail))))
        go_ret
        exact ⟨by first | (rw [H.out]; done) | (rw [H.out]; rfl), q⟩
    · have dlo : ((strOf x.lo).toList == (strOf y.lo).toList) = false := by rw [str_eqS]; exact decide_eq_false h_lo
      have H := Lib.hid (show decide (x = y) = false from decide_eq_false (fun h => h_lo (by rw [h])))
      clear h_tb h_lo
      go_wp2_with (refine wpList_conv (x := .tmp 12) byP rfl rfl rfl rlx.rd ?_; go_wp2_with (refine wpList_conv (x := .tmp 15) byP rfl rfl rfl rly.rd ?_; go_wp2_with fail))
      go_ret
      exact ⟨by first | (rw [H.out]; done) | (rw [H.out]; rfl), q⟩
  · have datb : (x.table == y.table) = false := beq_eq_false_iff_ne.2 h_tb
    have dbtb : decide (x.table = y.table) = false := decide_eq_false h_tb
    have dctb : (x.table = y.table) = False := eq_false h_tb
    have ddtb : (x.table != y.table) = true := bne_iff_ne.2 h_tb
    have H := Lib.hid (show decide (x = y) = false from decide_eq_false (fun h => h_tb (by rw [h])))
    clear h_tb
    go_wp2_with fail
    go_ret
    exact ⟨by first | (rw [H.out]; done) | (rw [H.out]; rfl), q⟩
set_option maxRecDepth 100000 in
set_option maxHeartbeats 4000000 in
theorem sCovers_any (w : World) {S S2 : Nat → Prop} {u v : Value} {x y : Sp} (hx : RdSp S w u x) (hy : RdSp S2 w v y) :
    Calls Tryd.prog 66 #[u, v] w fun e w' => e = .returned (.bool (coversS x y)) ∧ Below w.heap.size w w' := by
  obtain ⟨a1, a2, a3, a4, rfl, hlx, hhx, htx⟩ := hx
  obtain ⟨b1, b2, b3, b4, rfl, hly, hhy, hty⟩ := hy
  have m1x : x.lo.length ≤ 9223372036854775807 := by have := hlx.len; unfold maxLen at this; omega
  have m2x : x.hi.length ≤ 9223372036854775807 := by have := hhx.len; unfold maxLen at this; omega
  have m1y : y.lo.length ≤ 9223372036854775807 := by have := hly.len; unfold maxLen at this; omega
  have m2y : y.hi.length ≤ 9223372036854775807 := by have := hhy.len; unfold maxLen at this; omega
  obtain ⟨W, hW, q, Bx, By, hsz⟩ := spBoxes2 w 27 27 [.int .i64 x.table, .slice a1 x.lo.length a2, .slice a3 x.hi.length a4, .bool x.isOpen] [.int .i64 y.table, .slice b1 y.lo.length b2, .slice b3 y.hi.length b4, .bool y.isOpen]
  clear hsz
  go_enter Tryd.func66, Tryd.ntmps66
  go_upto_region 1 with (fail)
  rw [show (w.alloc (.cells #[.int .i64 x.table, .slice a1 x.lo.length a2, .slice a3 x.hi.length a4, .bool x.isOpen] 27)).alloc (.cells #[.int .i64 y.table, .slice b1 y.lo.length b2, .slice b3 y.hi.length b4, .bool y.isOpen] 27) = W from hW.symm]
  clear hW
  have cy0 := By.cell (i := 0) rfl
  have cy1 := By.cell (i := 1) rfl
  have cy2 := By.cell (i := 2) rfl
  have cy3 := By.cell (i := 3) rfl
  have hcl := sEmpty_any W (x := y) ⟨_, _, _, _, rfl, hly.below q, hhy.below q, hty⟩
  go_wp2_with fail
  refine hcl.mono ?_
  rintro e w1 ⟨rfl, hb⟩
  clear hcl cy0 cy1 cy2 cy3
  replace Bx := Bx.below hb Bx.lt
  replace By := By.below hb By.lt
  replace q := q.trans (hb.mono q.size)
  clear hb
  have cx0 := Bx.cell (i := 0) rfl
  have cx1 := Bx.cell (i := 1) rfl
  have cx2 := Bx.cell (i := 2) rfl
  have cx3 := Bx.cell (i := 3) rfl
  have rlx := hlx.below q
  have rhx := hhx.below q
  have cy0 := By.cell (i := 0) rfl
  have cy1 := By.cell (i := 1) rfl
  have cy2 := By.cell (i := 2) rfl
  have cy3 := By.cell (i := 3) rfl
  have rly := hly.below q
  have rhy := hhy.below q
  cases h_em : emptyS y with
  | true =>
    have H := Lib.hid (show coversS x y = true from by unfold coversS; simp [h_em])
    clear h_em
    go_wp2_with fail
    go_ret
    exact ⟨by first | (rw [H.out]; done) | (rw [H.out]; rfl), q⟩
  | false =>
    by_cases h_tb : x.table = y.table
    · have datb : (x.table == y.table) = true := beq_iff_eq.2 h_tb
      have dbtb : decide (x.table = y.table) = true := decide_eq_true h_tb
      have dctb : (x.table = y.table) = True := eq_true h_tb
      have ddtb : (x.table != y.table) = false := by rw [bne_eq_false_iff_eq]; exact h_tb
      cases h_ll : ltB y.lo x.lo with
      | true =>
        have dll : decide (Lib.compareBytes y.lo x.lo < 0) = true := (cmp_lt _ _).trans h_ll
        have H := Lib.hid (show coversS x y = false from by unfold coversS; simp [h_em, h_tb, h_ll])
        clear h_em h_tb h_ll
        go_wp2_with fail
        refine (compare_any _ rly rlx).mono ?_
        rintro e _ ⟨rfl, rfl⟩
        go_wp2_with fail
        go_ret
        exact ⟨by first | (rw [H.out]; done) | (rw [H.out]; rfl), q⟩
      | false =>
        have dll : decide (Lib.compareBytes y.lo x.lo < 0) = false := (cmp_lt _ _).trans h_ll
        cases h_ox : x.isOpen with
        | true =>
          rw [h_ox] at cx3
          have H := Lib.hid (show coversS x y = true from by unfold coversS; simp [h_em, h_tb, h_ll, h_ox])
          clear h_em h_tb h_ll h_ox
          go_wp2_with fail
          refine (compare_any _ rly rlx).mono ?_
          rintro e _ ⟨rfl, rfl⟩
          go_wp2_with fail
          go_ret
          exact ⟨by first | (rw [H.out]; done) | (rw [H.out]; rfl), q⟩
        | false =>
          rw [h_ox] at cx3
          cases h_oy : y.isOpen with
          | true =>
            rw [h_oy] at cy3
            have H := Lib.hid (show coversS x y = false from by unfold coversS; simp [h_em, h_tb, h_ll, h_ox, h_oy])
            clear h_em h_tb h_ll h_ox h_oy
            go_wp2_with fail
            refine (compare_any _ rly rlx).mono ?_
            rintro e _ ⟨rfl, rfl⟩
            go_wp2_with fail
            go_ret
            exact ⟨by first | (rw [H.out]; done) | (rw [H.out]; rfl), q⟩
          | false =>
            rw [h_oy] at cy3
            cases h_hh : ltB x.hi y.hi with
            | true =>
              have dhh : decide (Lib.compareBytes y.hi x.hi ≤ 0) = false := by rw [cmp_le, h_hh]; rfl
              have H := Lib.hid (show coversS x y = false from by unfold coversS; simp [h_em, h_tb, h_ll, h_ox, h_oy, h_hh])
              clear h_em h_tb h_ll h_ox h_oy h_hh
              go_wp2_with fail
              refine (compare_any _ rly rlx).mono ?_
              rintro e _ ⟨rfl, rfl⟩
              go_wp2_with fail
              refine (compare_any _ rhy rhx).mono ?_
              rintro e _ ⟨rfl, rfl⟩
              go_wp2_with fail
              go_ret
              exact ⟨by first | (rw [H.out]; done) | (rw [H.out]; rfl), q⟩
            | false =>
              have dhh : decide (Lib.compareBytes y.hi x.hi ≤ 0) = true := by rw [cmp_le, h_hh]; rfl
              have H := Lib.hid (show coversS x y = true from by unfold coversS; simp [h_em, h_tb, h_ll, h_ox, h_oy, h_hh])
              clear h_em h_tb h_ll h_ox h_oy h_hh
              go_wp2_with fail
              refine (compare_any _ rly rlx).mono ?_
              rintro e _ ⟨rfl, rfl⟩
              go_wp2_with fail
              refine (compare_any _ rhy rhx).mono ?_
              rintro e _ ⟨rfl, rfl⟩
              go_wp2_with fail
              go_ret
              exact ⟨by first | (rw [H.out]; done) | (rw [H.out]; rfl), q⟩
    · have datb : (x.table == y.table) = false := beq_eq_false_iff_ne.2 h_tb
      have dbtb : decide (x.table = y.table) = false := decide_eq_false h_tb
      have dctb : (x.table = y.table) = False := eq_false h_tb
      have ddtb : (x.table != y.table) = true := bne_iff_ne.2 h_tb
      have H := Lib.hid (show coversS x y = false from by unfold coversS; simp [h_em, h_tb])
      clear h_em h_tb
      go_wp2_with fail
      go_ret
      exact ⟨by first | (rw [H.out]; done) | (rw [H.out]; rfl), q⟩
set_option maxRecDepth 100000 in
set_option maxHeartbeats 4000000 in
theorem sBoth_any (w : World) {S : Nat → Prop} {a1 a3 b1 b3 : Option Addr} {a2 a4 b2 b4 g1 g2 : Nat} {x y : Sp} {A : Option Addr} {n C : Nat} {k : List UInt8} (Bx : BoxN w g1 27 [.int .i64 x.table, .slice a1 x.lo.length a2, .slice a3 x.hi.length a4, .bool x.isOpen]) (By : BoxN w g2 27 [.int .i64 y.table, .slice b1 y.lo.length b2, .slice b3 y.hi.length b4, .bool y.isOpen]) (rlx : RdS S w (.slice a1 x.lo.length a2) x.lo) (rhx : RdS S w (.slice a3 x.hi.length a4) x.hi) (htx : W64 x.table) (rly : RdS S w (.slice b1 y.lo.length b2) y.lo) (rhy : RdS S w (.slice b3 y.hi.length b4) y.hi) (hty : W64 y.table) (hk : RdS S w (.slice A n C) k) :
    Calls Tryd.prog 59 #[.slice A n C, .pointer (some ⟨g1, 0, none⟩), .pointer (some ⟨g2, 0, none⟩)] w fun e w' => e = .returned (.bool (inT x x.table k && inT y x.table k)) ∧ Below w.heap.size w w' := by
  have q := Below.refl w.heap.size w
  go_enter Tryd.func59, Tryd.ntmps59
  have cx0 := Bx.cell (i := 0) rfl
  have cx1 := Bx.cell (i := 1) rfl
  have cx2 := Bx.cell (i := 2) rfl
  have cx3 := Bx.cell (i := 3) rfl
  have cy0 := By.cell (i := 0) rfl
  have cy1 := By.cell (i := 1) rfl
  have cy2 := By.cell (i := 2) rfl
  have cy3 := By.cell (i := 3) rfl
  have hcl := sIn_any _ (t := x.table) ⟨_, _, _, _, rfl, rlx, rhx, htx⟩ hk
  go_wp2_with fail
  refine hcl.mono ?_
  rintro e w1 ⟨rfl, hb⟩
  clear hcl cx0 cx1 cx2 cx3 cy0 cy1 cy2 cy3
  replace Bx := Bx.below hb Bx.lt
  replace By := By.below hb By.lt
  replace rlx := rlx.below hb
  replace rhx := rhx.below hb
  replace rly := rly.below hb
  replace rhy := rhy.below hb
  replace q := q.trans (hb.mono q.size)
  clear hb
  cases h_i1 : inT x x.table k with
  | true =>
    have cx0 := Bx.cell (i := 0) rfl
    have cx1 := Bx.cell (i := 1) rfl
    have cx2 := Bx.cell (i := 2) rfl
    have cx3 := Bx.cell (i := 3) rfl
    have cy0 := By.cell (i := 0) rfl
    have cy1 := By.cell (i := 1) rfl
    have cy2 := By.cell (i := 2) rfl
    have cy3 := By.cell (i := 3) rfl
    have hcl := sIn_any _ (t := x.table) ⟨_, _, _, _, rfl, rly, rhy, hty⟩ (hk.below q)
    go_wp2_with fail
    refine hcl.mono ?_
    rintro e w2 ⟨rfl, hb⟩
    clear hcl cx0 cx1 cx2 cx3 cy0 cy1 cy2 cy3
    replace Bx := Bx.below hb Bx.lt
    replace By := By.below hb By.lt
    replace rlx := rlx.below hb
    replace rhx := rhx.below hb
    replace rly := rly.below hb
    replace rhy := rhy.below hb
    replace q := q.trans (hb.mono q.size)
    clear hb
    cases h_i2 : inT y x.table k with
    | true =>
      have H := Lib.hid (show (inT x x.table k && inT y x.table k) = true by rw [h_i1, h_i2] <;> rfl)
      clear h_i1 h_i2
      go_wp2_with fail
      go_ret
      exact ⟨by first | (rw [H.out]; done) | (rw [H.out]; rfl), q⟩
    | false =>
      have H := Lib.hid (show (inT x x.table k && inT y x.table k) = false by rw [h_i1, h_i2] <;> rfl)
      clear h_i1 h_i2
      go_wp2_with fail
      go_ret
      exact ⟨by first | (rw [H.out]; done) | (rw [H.out]; rfl), q⟩
  | false =>
    have H := Lib.hid (show (inT x x.table k && inT y x.table k) = false by rw [h_i1] <;> rfl)
    clear h_i1
    go_wp2_with fail
    go_ret
    exact ⟨by first | (rw [H.out]; done) | (rw [H.out]; rfl), q⟩
set_option maxRecDepth 100000 in
set_option maxHeartbeats 4000000 in
theorem sMeets_any (w : World) {S S2 : Nat → Prop} {u v : Value} {x y : Sp} (hx : RdSp S w u x) (hy : RdSp S2 w v y) :
    Calls Tryd.prog 36 #[u, v] w fun e w' => e = .returned (.bool (meetsS x y)) ∧ Below w.heap.size w w' := by
  obtain ⟨a1, a2, a3, a4, rfl, hlx, hhx, htx⟩ := hx
  obtain ⟨b1, b2, b3, b4, rfl, hly, hhy, hty⟩ := hy
  obtain ⟨W, hW, q, Bx, By, hsz⟩ := spBoxes2 w 27 27 [.int .i64 x.table, .slice a1 x.lo.length a2, .slice a3 x.hi.length a4, .bool x.isOpen] [.int .i64 y.table, .slice b1 y.lo.length b2, .slice b3 y.hi.length b4, .bool y.isOpen]
  clear hsz
  go_enter Tryd.func36, Tryd.ntmps36
  go_upto_region 1 with (fail)
  rw [show (w.alloc (.cells #[.int .i64 x.table, .slice a1 x.lo.length a2, .slice a3 x.hi.length a4, .bool x.isOpen] 27)).alloc (.cells #[.int .i64 y.table, .slice b1 y.lo.length b2, .slice b3 y.hi.length b4, .bool y.isOpen] 27) = W from hW.symm]
  clear hW
  have rlx := hlx.below q
  have rhx := hhx.below q
  have rly := hly.below q
  have rhy := hhy.below q
  clear hlx hhx hly hhy
  have cx0 := Bx.cell (i := 0) rfl
  have cx1 := Bx.cell (i := 1) rfl
  have cx2 := Bx.cell (i := 2) rfl
  have cx3 := Bx.cell (i := 3) rfl
  have cy0 := By.cell (i := 0) rfl
  have cy1 := By.cell (i := 1) rfl
  have cy2 := By.cell (i := 2) rfl
  have cy3 := By.cell (i := 3) rfl
  have hcl := sBoth_any (S := fun _ => True) _ Bx By (rlx.weak (fun _ _ => trivial)) (rhx.weak (fun _ _ => trivial)) htx (rly.weak (fun _ _ => trivial)) (rhy.weak (fun _ _ => trivial)) hty (rlx.weak (fun _ _ => trivial))
  go_wp2_with fail
  refine hcl.mono ?_
  rintro e w1 ⟨rfl, hb⟩
  clear hcl cx0 cx1 cx2 cx3 cy0 cy1 cy2 cy3
  replace Bx := Bx.below hb Bx.lt
  replace By := By.below hb By.lt
  replace rlx := rlx.below hb
  replace rhx := rhx.below hb
  replace rly := rly.below hb
  replace rhy := rhy.below hb
  replace q := q.trans (hb.mono q.size)
  clear hb
  cases h_m1 : (inT x x.table x.lo && inT y x.table x.lo) with
  | true =>
    have H := Lib.hid (show meetsS x y = true by unfold meetsS; rw [h_m1] <;> rfl)
    clear h_m1
    go_wp2_with fail
    go_ret
    exact ⟨by first | (rw [H.out]; done) | (rw [H.out]; rfl), q⟩
  | false =>
    have cx0 := Bx.cell (i := 0) rfl
    have cx1 := Bx.cell (i := 1) rfl
    have cx2 := Bx.cell (i := 2) rfl
    have cx3 := Bx.cell (i := 3) rfl
    have cy0 := By.cell (i := 0) rfl
    have cy1 := By.cell (i := 1) rfl
    have cy2 := By.cell (i := 2) rfl
    have cy3 := By.cell (i := 3) rfl
    have hcl := sBoth_any (S := fun _ => True) _ Bx By (rlx.weak (fun _ _ => trivial)) (rhx.weak (fun _ _ => trivial)) htx (rly.weak (fun _ _ => trivial)) (rhy.weak (fun _ _ => trivial)) hty (rly.weak (fun _ _ => trivial))
    go_wp2_with fail
    refine hcl.mono ?_
    rintro e w2 ⟨rfl, hb⟩
    clear hcl cx0 cx1 cx2 cx3 cy0 cy1 cy2 cy3
    replace Bx := Bx.below hb Bx.lt
    replace By := By.below hb By.lt
    replace rlx := rlx.below hb
    replace rhx := rhx.below hb
    replace rly := rly.below hb
    replace rhy := rhy.below hb
    replace q := q.trans (hb.mono q.size)
    clear hb
    cases h_m2 : (inT x x.table y.lo && inT y x.table y.lo) with
    | true =>
      have H := Lib.hid (show meetsS x y = true by unfold meetsS; rw [h_m1, h_m2] <;> rfl)
      clear h_m1 h_m2
      go_wp2_with fail
      go_ret
      exact ⟨by first | (rw [H.out]; done) | (rw [H.out]; rfl), q⟩
    | false =>
      have H := Lib.hid (show meetsS x y = false by unfold meetsS; rw [h_m1, h_m2] <;> rfl)
      clear h_m1 h_m2
      go_wp2_with fail
      go_ret
      exact ⟨by first | (rw [H.out]; done) | (rw [H.out]; rfl), q⟩
end Go.Proofs.YtccoklhmbikfmaaDoor
namespace Go.Proofs.YtccoklhmbikfmaaDoor
open Go.RowKit
theorem grown_trans {A B C : World} {r : Option Nat} (h : A.grownBy B r) (k : B.grownBy C r) : A.grownBy C r :=
  ⟨k.os.trans h.os, k.tape.trans h.tape, k.output.trans h.output, Nat.le_trans h.size k.size, fun i hi hn => (k.block i (Nat.lt_of_lt_of_le hi h.size) hn).trans (h.block i hi hn)⟩
theorem grown_below' {A B : World} (h : Below A.heap.size A B) (r : Option Nat) : A.grownBy B r := ⟨h.os, h.tape, h.output, h.size, fun k hk _ => h.block k hk⟩
theorem grown_below2 {A B : World} {n : Nat} (h : Below n A B) (hn : n = A.heap.size) (r : Option Nat) : A.grownBy B r := by subst hn; exact grown_below' h r
end Go.Proofs.YtccoklhmbikfmaaDoor
namespace Go.Proofs.YtccoklhmbikfmaaDoor
open Go.RowKit
def hangs (ops : Array Oper) (j i : Nat) : Bool := (ops[j]?).any fun o => o.after.any fun e => e.on == i && Region.binds .any e
theorem hangs_get {ops : Array Oper} {j i : Nat} (h : hangs ops j i = true) : ∃ o, ops[j]? = some o ∧ ∃ e ∈ o.after, e.on = i ∧ Region.binds .any e = true := by
  unfold hangs at h
  cases ho : ops[j]? with
  | none => rw [ho] at h; simp at h
  | some o =>
    rw [ho] at h
    simp only [Option.any_some, Array.any_eq_true', Bool.and_eq_true, beq_iff_eq] at h
    exact ⟨o, rfl, h⟩
def incB : List Nat → Bool
  | [] => true
  | [_] => true
  | c :: d :: r => decide (c < d) && incB (d :: r)
theorem inc_head : ∀ {r : List Nat} {c q d : Nat}, incB (c :: r) = true → r[q]? = some d → c < d
  | [], _, _, _, _, h => by simp at h
  | x :: r, c, 0, d, h, h2 => by
    simp only [incB, Bool.and_eq_true, decide_eq_true_eq] at h
    obtain rfl : x = d := by simpa using h2
    exact h.1
  | x :: r, c, q + 1, d, h, h2 => by
    simp only [incB, Bool.and_eq_true, decide_eq_true_eq] at h
    exact Nat.lt_trans h.1 (inc_head h.2 (by simpa using h2))
theorem inc_lt : ∀ {l : List Nat} {p q c d : Nat}, incB l = true → l[p]? = some c → l[q]? = some d → p < q → c < d
  | [], _, _, _, _, _, h, _, _ => by simp at h
  | x :: r, 0, q + 1, c, d, h, h1, h2, _ => by
    obtain rfl : x = c := by simpa using h1
    exact inc_head h (by simpa using h2)
  | x :: r, p + 1, q + 1, c, d, h, h1, h2, h3 => by
    have h' : incB r = true := by
      cases r with
      | nil => rfl
      | cons y r => simp only [incB, Bool.and_eq_true] at h; exact h.2
    exact inc_lt h' (by simpa using h1) (by simpa using h2) (by omega)
  | _, _, 0, _, _, _, _, _, h => absurd h (Nat.not_lt_zero _)
theorem inc_ix {l : List Nat} {p q c : Nat} (h : incB l = true) (h1 : l[p]? = some c) (h2 : l[q]? = some c) : p = q := by
  rcases Nat.lt_trichotomy p q with h3 | h3 | h3
  · exact absurd (inc_lt h h1 h2 h3) (Nat.lt_irrefl _)
  · exact h3
  · exact absurd (inc_lt h h2 h1 h3) (Nat.lt_irrefl _)
def lineB (ops : Array Oper) (ch : List Nat) : Bool :=
  (ch.all fun c => decide (c < ops.size)) && incB ch && (List.range ch.length).all fun p => p == 0 || hangs ops (ch.getD p 0) (ch.getD (p - 1) 0)
theorem line_lt {ops : Array Oper} {ch : List Nat} (h : lineB ops ch = true) {p c : Nat} (hp : ch[p]? = some c) : c < ops.size := by
  simp only [lineB, Bool.and_eq_true, List.all_eq_true, decide_eq_true_eq] at h
  exact h.1.1 c (List.mem_of_getElem? hp)
theorem line_hangs {ops : Array Oper} {ch : List Nat} (h : lineB ops ch = true) {p c d : Nat} (hp : ch[p + 1]? = some d) (hc : ch[p]? = some c) : hangs ops d c = true := by
  simp only [lineB, Bool.and_eq_true, List.all_eq_true, List.mem_range, Bool.or_eq_true, beq_iff_eq] at h
  have := (h.2 (p + 1) (List.getElem?_eq_some_iff.1 hp).1).resolve_left (by omega)
  rwa [List.getD_eq_getElem?_getD, hp, List.getD_eq_getElem?_getD, Nat.add_sub_cancel, hc] at this
section
variable {P : Program} {Q : Exit → Act → World → Prop}
def LineOp (P : Program) (Q : Exit → Act → World → Prop) (ops : Array Oper) (a : Act) (ch : List Nat) (G : Nat → World → Value → Prop) (J : List Value → World → Prop) (K : World → World → Prop) (p : Nat) (o : Oper) : Prop :=
  ∀ (A : Act) (vs : Nat → Value) (w' : World), (∀ t, slotIx ops.toList 0 t = none → A.eval (.tmp t) = a.eval (.tmp t)) → (∀ t j, t < a.tmps.size → slotIx ops.toList 0 t = some j → A.eval (.tmp t) = vs j) → J ((ch.take p).map vs) w' →
    (∀ q j d, p ≤ q → ch[q]? = some j → (ops[j]?).bind (·.dst) = some d → vs j = a.eval (.tmp d)) → (∀ e ∈ o.after, Region.binds .any e = true → ch.contains e.on = false → G e.on w' (vs e.on)) →
    o.wp P A w' (fun a2 w2 => ∃ v, a2 = A.put o.dst v ∧ J ((ch.take p).map vs ++ [v]) w2 ∧ K w' w2) Q
def SideOp (P : Program) (Q : Exit → Act → World → Prop) (ops : Array Oper) (a : Act) (ch : List Nat) (G : Nat → World → Value → Prop) (J : List Value → World → Prop) (i : Nat) (o : Oper) : Prop :=
  ∀ (A : Act) (vs : Nat → Value) (w' : World) (k : Nat), (∀ t, slotIx ops.toList 0 t = none → A.eval (.tmp t) = a.eval (.tmp t)) → (∀ t j, t < a.tmps.size → slotIx ops.toList 0 t = some j → A.eval (.tmp t) = vs j) → k ≤ ch.length → J ((ch.take k).map vs) w' →
    (∀ p c, ch[p]? = some c → hangs ops c i = true → k ≤ p) → (∀ q j d, k ≤ q → ch[q]? = some j → (ops[j]?).bind (·.dst) = some d → vs j = a.eval (.tmp d)) →
    (∀ e ∈ o.after, Region.binds .any e = true → ∀ p, ch[p]? = some e.on → p < k) → (∀ e ∈ o.after, Region.binds .any e = true → ch.contains e.on = false → G e.on w' (vs e.on)) →
    o.wp P A w' (fun a2 w2 => ∃ v, a2 = A.put o.dst v ∧ G i w2 v ∧ Below w'.heap.size w' w2) Q
def LnOp (P : Program) (Q : Exit → Act → World → Prop) (ops : Array Oper) (a : Act) (ch : List Nat) (G : Nat → World → Value → Prop) (J : List Value → World → Prop) (K : World → World → Prop) (i : Nat) (o : Oper) : Prop :=
  o.guard = none ∧ ((∃ p, ch[p]? = some i ∧ LineOp P Q ops a ch G J K p o) ∨ (ch.contains i = false ∧ SideOp P Q ops a ch G J i o))
theorem LnOp.line {ops : Array Oper} {a : Act} {ch : List Nat} {G : Nat → World → Value → Prop} {J : List Value → World → Prop} {K : World → World → Prop} {i : Nat} {o : Oper} (p : Nat) (hg : o.guard = none) (hp : ch[p]? = some i) (h : LineOp P Q ops a ch G J K p o) : LnOp P Q ops a ch G J K i o := ⟨hg, .inl ⟨p, hp, h⟩⟩
theorem LnOp.side {ops : Array Oper} {a : Act} {ch : List Nat} {G : Nat → World → Value → Prop} {J : List Value → World → Prop} {K : World → World → Prop} {i : Nat} {o : Oper} (hg : o.guard = none) (hp : ch.contains i = false) (h : SideOp P Q ops a ch G J i o) : LnOp P Q ops a ch G J K i o := ⟨hg, .inr ⟨hp, h⟩⟩
def LnAll (P : Program) (Q : Exit → Act → World → Prop) (ops : Array Oper) (a : Act) (ch : List Nat) (G : Nat → World → Value → Prop) (J : List Value → World → Prop) (K : World → World → Prop) : Nat → List Oper → Prop
  | _, [] => True
  | i, o :: rest => LnOp P Q ops a ch G J K i o ∧ LnAll P Q ops a ch G J K (i + 1) rest
theorem LnAll.get {ops : Array Oper} {a : Act} {ch : List Nat} {G : Nat → World → Value → Prop} {J : List Value → World → Prop} {K : World → World → Prop} : ∀ (l : List Oper) (k j : Nat) (o : Oper), LnAll P Q ops a ch G J K k l → l[j]? = some o → LnOp P Q ops a ch G J K (k + j) o
  | [], _, _, _, _, h => by simp at h
  | o' :: rest, k, 0, o, h, hj => by obtain rfl : o' = o := by simpa using hj
                                     exact h.1
  | o' :: rest, k, j + 1, o, h, hj => by rw [show k + (j + 1) = k + 1 + j by omega]; exact LnAll.get rest (k + 1) j o h.2 (by simpa using hj)
theorem map_upd_out {l : List Nat} {vs : Nat → Value} {i : Nat} {v : Value} (h : i ∉ l) : l.map (upd vs i v) = l.map vs := by
  refine List.map_congr_left fun j hj => ?_
  have : j ≠ i := fun e => h (by rw [← e]; exact hj)
  simp [upd, this]
theorem wp_region_line {id : Nat} {ops : Array Oper} {a : Act} {w : World} (hm : P.follows .mixedOrders = true) (hs : gdB ops = true) (ch : List Nat) (hch : lineB ops ch = true) (G : Nat → World → Value → Prop) (J : List Value → World → Prop) (K : World → World → Prop)
    (hG : ∀ i w v w', G i w v → Below w.heap.size w w' → G i w' v) (hK : ∀ i w v w', G i w v → K w w' → G i w' v) (hJ : ∀ l w w', J l w → Below w.heap.size w w' → J l w') (h0 : J [] w)
    (hop : LnAll P Q ops a ch G J K 0 ops.toList)
    (hend : ∀ (vs : Nat → Value) (w' : World), J (ch.map vs) w' → (∀ i, i < ops.size → ch.contains i = false → G i w' (vs i)) → Q .normal (putAll a ops.toList vs 0) w') : (Code.region id ops true).wp P Q a w := by
  refine wp_region_any hm ?_
  have hnd : (ops.toList.filterMap (·.dst)).Nodup := by simp only [gdB, slotsB, Bool.and_eq_true, decide_eq_true_eq] at hs; exact hs.2
  have hinc : incB ch = true := by simp only [lineB, Bool.and_eq_true] at hch; exact hch.1.2
  have main : ∀ (fuel : Nat) (listed : Array Bool) (vs : Nat → Value) (w' : World) (k : Nat), listed.size = ops.size → (unlisted ops.size listed).length ≤ fuel → k ≤ ch.length → (∀ p c, ch[p]? = some c → (listed.getD c true = true ↔ p < k)) → J ((ch.take k).map vs) w' →
      (∀ i, i < ops.size → listed.getD i true = true → ch.contains i = false → G i w' (vs i)) → (∀ i o, ops[i]? = some o → listed.getD i true = true → ∀ e ∈ o.after, Region.binds .any e = true → e.on < ops.size ∧ listed.getD e.on true = true) → (∀ j, j < ops.size → listed.getD j true = false → ∀ d, (ops[j]?).bind (·.dst) = some d → vs j = a.eval (.tmp d)) → wpAny P .any ops Q fuel listed (putAll a ops.toList vs 0) w' := by
    intro fuel
    have fin : ∀ (listed : Array Bool) (vs : Nat → Value) (w' : World) (k : Nat), k ≤ ch.length → (∀ p c, ch[p]? = some c → (listed.getD c true = true ↔ p < k)) → J ((ch.take k).map vs) w' →
        (∀ i, i < ops.size → listed.getD i true = true → ch.contains i = false → G i w' (vs i)) → (∀ i, i < ops.size → listed.getD i true = true) → Q .normal (putAll a ops.toList vs 0) w' := by
      intro listed vs w' k hk hlk hJ' hG' hall
      have : k = ch.length := by
        rcases Nat.lt_or_ge k ch.length with h | h
        · have h1 := List.getElem?_eq_getElem h
          have h2 := (hlk k _ h1).1 (hall _ (line_lt hch h1))
          omega
        · omega
      subst this
      rw [List.take_length] at hJ'
      exact hend vs w' hJ' fun i hi hc => hG' i hi (hall i hi) hc
    induction fuel with
    | zero =>
      intro listed vs w' k hsz hu hk hlk hJ' hG' hcl hun
      have hall : ∀ i, i < ops.size → listed.getD i true = true := by
        intro i hi
        cases hl : listed.getD i true with
        | true => rfl
        | false =>
          have : i ∈ unlisted ops.size listed := List.mem_filter.2 ⟨List.mem_range.2 hi, by simp [hl]⟩
          rw [List.eq_nil_of_length_eq_zero (Nat.le_zero.1 hu)] at this
          cases this
      refine ⟨?_, fin listed vs w' k hk hlk hJ' hG' hall⟩
      unfold Region.ready
      rw [List.filter_eq_nil_iff]
      intro i hi
      simp [hall i (List.mem_range.1 hi)]
    | succ fuel ih =>
      intro listed vs w' k hsz hu hk hlk hJ' hG' hcl hun
      refine ⟨fun hr => fin listed vs w' k hk hlk hJ' hG' (fun i hi => all_listed_gd hs hr i hi), fun i hi => ?_⟩
      unfold Region.ready at hi
      obtain ⟨hi1, hi2⟩ := List.mem_filter.1 hi
      have hlt := List.mem_range.1 hi1
      rw [Bool.and_eq_true] at hi2
      obtain ⟨hl, hdep⟩ := hi2
      have hl' : listed.getD i true = false := by simpa using hl
      obtain ⟨o, ho⟩ : ∃ o, ops[i]? = some o := ⟨_, Array.getElem?_eq_getElem hlt⟩
      rw [ho] at hdep
      simp only [Option.map_some, Option.getD_some] at hdep
      rw [Array.all_eq_true'] at hdep
      have hgop := LnAll.get ops.toList 0 i o hop (by rw [Array.getElem?_toList]; exact ho)
      rw [Nat.zero_add] at hgop
      have hdepG : ∀ e ∈ o.after, Region.binds .any e = true → e.on < ops.size ∧ listed.getD e.on true = true := by
        intro e he hbn
        have h := hdep e he
        rw [hbn] at h
        simp only [Bool.not_true, Bool.false_or] at h
        have hin : e.on < listed.size := by
          rcases Nat.lt_or_ge e.on listed.size with h' | h'
          · exact h'
          · simp [Array.getD_eq_getD_getElem?, Array.getElem?_eq_none_iff.2 h'] at h
        have hl2 : listed.getD e.on true = true := by
          simp only [Array.getD_eq_getD_getElem?, Array.getElem?_eq_getElem hin, Option.getD_some] at h ⊢
          exact h
        exact ⟨by omega, hl2⟩
      have hdepS : ∀ e ∈ o.after, Region.binds .any e = true → ch.contains e.on = false → G e.on w' (vs e.on) := fun e he hbn hc => hG' e.on (hdepG e he hbn).1 (hdepG e he hbn).2 hc
      have hlate : ∀ q j d, k ≤ q → ch[q]? = some j → (ops[j]?).bind (·.dst) = some d → vs j = a.eval (.tmp d) := by
        intro q j d hq hj hd
        refine hun j (line_lt hch hj) ?_ d hd
        cases hlj : listed.getD j true with
        | false => rfl
        | true => have := (hlk q j hj).1 hlj; omega
      have step : ∀ (v : Value) (w2 : World) (k2 : Nat), k2 ≤ ch.length → (∀ p c, ch[p]? = some c → ((c = i ∨ p < k) ↔ p < k2)) → J ((ch.take k2).map (upd vs i v)) w2 → (ch.contains i = false → G i w2 v) → (∀ j u, ch.contains j = false → G j w' u → G j w2 u) → wpAny P .any ops Q fuel (listed.setIfInBounds i true) ((putAll a ops.toList vs 0).put o.dst v) w2 := by
        intro v w2 k2 hk2 hlk2 hJ2 hGi hGs
        rw [putAll_put ops.toList a vs 0 i o v hnd (by rw [Array.getElem?_toList]; exact ho), Nat.zero_add]
        have hset : ∀ j, (listed.setIfInBounds i true).getD j true = true ↔ j = i ∨ listed.getD j true = true := fun j => by
          by_cases hji : j = i
          · subst hji
            simp [Array.getD_eq_getD_getElem?, Array.getElem?_setIfInBounds_self_of_lt (by omega : j < listed.size)]
          · simp [Array.getD_eq_getD_getElem?, Array.getElem?_setIfInBounds_ne (Ne.symm hji), hji]
        refine ih _ _ _ k2 (by simp [hsz]) (by have := unlisted_set hsz hlt hl'; omega) hk2 (fun p c hp => ?_) hJ2 (fun j hj hlj hc => ?_) (fun j oj hoj hlj e he hbn => ?_) (fun j hj hlj d hd => ?_)
        · rw [hset, ← hlk2 p c hp, hlk p c hp]
        · by_cases hji : j = i
          · subst hji
            simpa [upd] using hGi hc
          · have hlj' := ((hset j).1 hlj).resolve_left hji
            have hv : upd vs i v j = vs j := by simp [upd, hji]
            rw [hv]
            exact hGs j _ hc (hG' j hj hlj' hc)
        · by_cases hji : j = i
          · subst hji
            obtain rfl : o = oj := by rw [ho] at hoj; injection hoj
            have := hdepG e he hbn
            exact ⟨this.1, (hset _).2 (.inr this.2)⟩
          · have hlj' := ((hset j).1 hlj).resolve_left hji
            have := hcl j oj hoj hlj' e he hbn
            exact ⟨this.1, (hset _).2 (.inr this.2)⟩
        · have hji : j ≠ i := fun e => by
            have := (hset j).2 (.inl e)
            rw [hlj] at this; cases this
          have hv : upd vs i v j = vs j := by simp [upd, hji]
          rw [hv]
          refine hun j hj ?_ d hd
          cases h : listed.getD j true with
          | false => rfl
          | true => have := (hset j).2 (.inr h); rw [hlj] at this; cases this
      unfold wpOp
      simp only [ho, Region.wanted, hgop.1, if_true]
      left
      rcases hgop.2 with ⟨p, hp, hln⟩ | ⟨hc, hsd⟩
      · have hkp : k = p := by
          have h1 : ¬ p < k := fun h => by have := (hlk p i hp).2 h; rw [hl'] at this; cases this
          cases p with
          | zero => omega
          | succ p =>
            obtain ⟨c, hcp⟩ : ∃ c, ch[p]? = some c := ⟨_, List.getElem?_eq_getElem (by have := (List.getElem?_eq_some_iff.1 hp).1; omega)⟩
            obtain ⟨o2, ho2, e, he, rfl, hbn⟩ := hangs_get (line_hangs hch hp hcp)
            obtain rfl : o = o2 := by rw [ho] at ho2; injection ho2
            have := (hlk p _ hcp).1 (hdepG e he hbn).2
            omega
        subst hkp
        have hkl := (List.getElem?_eq_some_iff.1 hp).1
        have hwp := hln (putAll a ops.toList vs 0) vs w' (fun t h => eval_putAll_out _ _ _ _ _ h) (fun t j ht h => eval_putAll_in _ _ _ _ _ _ hnd ht h) hJ' hlate hdepS
        refine Oper.wp_mono ?_ hwp
        rintro a2 w2 ⟨v, rfl, hJ2, hK2⟩
        refine step v w2 (k + 1) hkl (fun p c hpc => ?_) ?_ (fun hc => ?_) (fun j u _ hg => hK j w' u w2 hg hK2)
        · constructor
          · rintro (rfl | h)
            · have := inc_ix hinc hpc hp; omega
            · omega
          · intro h
            by_cases h3 : p = k
            · subst h3
              rw [hp] at hpc
              injection hpc with hpc
              exact .inl hpc.symm
            · exact .inr (by omega)
        · have e1 : ch.take (k + 1) = ch.take k ++ [i] := by
            rw [List.take_add_one, hp]; rfl
          have e2 : i ∉ ch.take k := fun hmem => by
            obtain ⟨q, hq⟩ := List.mem_iff_getElem?.1 hmem
            rw [List.getElem?_take] at hq
            split at hq
            · have := inc_ix hinc hq hp; omega
            · cases hq
          rw [e1, List.map_append, map_upd_out e2]
          simpa [upd] using hJ2
        · rw [List.contains_iff_mem.2 (List.mem_of_getElem? hp)] at hc
          cases hc
      · have hci : i ∉ ch := fun h => by rw [List.contains_iff_mem.2 h] at hc; cases hc
        have hwp := hsd (putAll a ops.toList vs 0) vs w' k (fun t h => eval_putAll_out _ _ _ _ _ h) (fun t j ht h => eval_putAll_in _ _ _ _ _ _ hnd ht h) hk hJ' (fun p c hpc hh => ?_) hlate (fun e he hbn p hp => (hlk p e.on hp).1 (hdepG e he hbn).2) hdepS
        · refine Oper.wp_mono ?_ hwp
          rintro a2 w2 ⟨v, rfl, hg, hb2⟩
          refine step v w2 k hk (fun p c hpc => ⟨fun h => ?_, .inr⟩) ?_ (fun _ => hg) (fun j u _ hgj => hG j w' u w2 hgj hb2)
          · rcases h with rfl | h
            · exact absurd (List.mem_of_getElem? hpc) hci
            · exact h
          · rw [map_upd_out (fun hmem => hci (List.mem_of_mem_take hmem))]
            exact hJ _ _ _ hJ' hb2
        · rcases Nat.lt_or_ge p k with h | h
          · exfalso
            obtain ⟨o2, ho2, e, he, hei, hbn⟩ := hangs_get hh
            have := (hcl c o2 ho2 ((hlk p c hpc).2 h) e he hbn).2
            rw [hei, hl'] at this
            cases this
          · exact h
  have hbz : Below w.heap.size w { w with drawn := w.drawn + 1 } := ⟨rfl, rfl, rfl, Nat.le_refl _, fun _ _ => rfl⟩
  have h1 := main ops.size (Array.replicate ops.size false) (fun i => ((ops[i]?).bind (·.dst)).elim undef (fun d => a.tmps.getD d undef)) { w with drawn := w.drawn + 1 } 0 (by simp)
    (by have := List.length_filter_le (fun i => !(Array.replicate ops.size false).getD i true) (List.range ops.size); simpa [unlisted] using this) (Nat.zero_le _)
    (fun p c hp => by have := line_lt hch hp; simp [Array.getD_eq_getD_getElem?, this]) (hJ _ _ _ h0 hbz)
    (fun i hi h => by simp [Array.getD_eq_getD_getElem?, hi] at h) (fun i o ho h => by
      have : i < ops.size := (Array.getElem?_eq_some_iff.1 ho).1
      simp [Array.getD_eq_getD_getElem?, this] at h)
    (fun j hj _ d hd => by simp only [hd, Option.elim]; rfl)
  rw [putAll_orig ops.toList a _ 0 (fun j o d hj hd => by
    rw [Array.getElem?_toList] at hj
    simp [hj, hd])] at h1
  exact h1
end
abbrev SGn (K : World → World → Prop) := { G : World → Value → Prop // (∀ w v w', G w v → Below w.heap.size w w' → G w' v) ∧ (∀ w v w', G w v → K w w' → G w' v) }
section
variable {K : World → World → Prop}
def lEq (u : Value) : SGn K := ⟨fun _ v => v = u, fun _ _ _ h _ => h, fun _ _ _ h _ => h⟩
def lAny : SGn K := ⟨fun _ _ => True, fun _ _ _ h _ => h, fun _ _ _ h _ => h⟩
variable {P : Program} {Q : Exit → Act → World → Prop}
theorem wp_region_lnl {id : Nat} {ops : Array Oper} {a : Act} {w : World} (hm : P.follows .mixedOrders = true) (hs : gdB ops = true) (ch : List Nat) (hch : lineB ops ch = true) (Gs : List (SGn K)) (J : List Value → World → Prop)
    (hJ : ∀ l w w', J l w → Below w.heap.size w w' → J l w') (h0 : J [] w)
    (hop : LnAll P Q ops a ch (fun i => (Gs.getD i lAny).1) J K 0 ops.toList)
    (hend : ∀ (vs : Nat → Value) (w' : World), J (ch.map vs) w' → (∀ i, i < ops.size → ch.contains i = false → (Gs.getD i lAny).1 w' (vs i)) → Q .normal (putAll a ops.toList vs 0) w') : (Code.region id ops true).wp P Q a w :=
  wp_region_line hm hs ch hch (fun i => (Gs.getD i lAny).1) J K (fun i => (Gs.getD i lAny).2.1) (fun i => (Gs.getD i lAny).2.2) hJ h0 hop hend
end
end Go.Proofs.YtccoklhmbikfmaaDoor
namespace Go.Proofs.YtccoklhmbikfmaaDoor
open Go.RowKit
theorem clone_any (w : World) {B : Nat} {ad : Option Addr} {n c : Nat} {xs : List UInt8} (hr : Rd B w (.slice ad n c) xs) (hB : B ≤ w.heap.size) (hx : xs.length ≤ 1000000) :
    Calls Tryd.prog 64 #[.slice ad n c] w fun e w' => ∃ ad' k c', e = .returned (.slice ad' k c') ∧ Fresh 5 w w' (.slice ad' k c') xs := by
  have he := fun (w : World) (ad : Option Addr) (n c : Nat) => Lib.run_eql_slice_nil (P := Tryd.prog) w 25 5 ad n c 0 0 byP.hT
  obtain ⟨rfl, _, _⟩ := hr.len
  cases ad with
  | none =>
    have hr' := hr
    rcases hr with ⟨_, _, h, _, rfl⟩ | ⟨_, _, _, h, _⟩
    · go_enter Tryd.func64, Tryd.ntmps64
      go_wp2
      go_ret
      exact ⟨_, _, _, rfl, Fresh.nil _ _⟩
    · cases h
  | some p =>
    go_enter Tryd.func64, Tryd.ntmps64
    go_wp2_with (first
      | (refine wpList_build byP rfl rfl [] (by kernel_rfl) rfl (by simp) ?_; intro g k1 w1 hF)
      | (at_builtin; refine wpList_append byP rfl rfl rfl hF.2 rfl (hr.below (hF.1.mono hB)) hF.1.size ?_ ?hlen; intro ad' k' c' w2 hO hg hb))
    case hlen => simp; omega
    go_ret
    exact ⟨_, _, _, rfl, hF.1.trans hb, hO⟩
end Go.Proofs.YtccoklhmbikfmaaDoor
namespace Go.Proofs.YtccoklhmbikfmaaDoor
open Go.RowKit
theorem grown_setRow (w : World) (g : Nat) (cs : Array Value) : w.grownBy (w.setRow g cs) (some g) :=
  ⟨rfl, rfl, rfl, by unfold World.setRow; simp, fun k _ hk => setRow_other w g k cs (fun e => hk (by rw [e]))⟩
section
variable {α : Type} {E : Elt α} {P : Program} {T Te : TypeId} {ops : Array Oper} {rest : List Oper} {o : Oper} {a : Act} {Q : Exit → Act → World → Prop} {w : World} {S : Nat → Prop}
theorem wpList_sliceRaw {n : Nat} (hP : LsP P T Te n) {x : Operand} {lo hi : Option Operand} (ho : o.op = .slice T x lo hi none) (hgd : Region.wanted o (yielded ops a.tmps) = true) {ad : Option Addr} {k c : Nat} (hx : a.eval x = .slice ad k c)
    {l r : Nat} (hb : (Instr.sliceBounds true k c (lo.map a.eval) (hi.map a.eval) none).run P w = .ok (l, r, c) w)
    (h : wpList P ops Q rest (a.put o.dst (.slice (if c = l then ad else ad.map (·.add (l * n))) (r - l) (c - l))) w) : wpList P ops Q (o :: rest) a w := by
  refine BigFrame.wpList_want hgd fun K hK => ?_
  unfold Oper.wp execOp
  simp only [ho, hx, Option.map_none, Sem.run_bind, Sem.run_pure, Result.andThen_ok, run_sliceL hP hb]
  exact hK _ _ h
end
end Go.Proofs.YtccoklhmbikfmaaDoor
namespace Go.Proofs.YtccoklhmbikfmaaDoor
open Go.RowKit
structure Trd (F : Nat → Prop) (w w' : World) : Prop where
  os : w'.os = w.os
  tape : w'.tape = w.tape
  output : w'.output = w.output
  size : w.heap.size ≤ w'.heap.size
  block : ∀ k, k < w.heap.size → ¬ F k → w'.heap[k]? = w.heap[k]?
section
variable {F F' : Nat → Prop} {a b c w w' : World}
theorem Trd.refl (F : Nat → Prop) (w : World) : Trd F w w := ⟨rfl, rfl, rfl, Nat.le_refl _, fun _ _ _ => rfl⟩
theorem Trd.trans (h : Trd F a b) (k : Trd F' b c) (hf : ∀ k, k < a.heap.size → F' k → F k) : Trd F a c :=
  ⟨k.os.trans h.os, k.tape.trans h.tape, k.output.trans h.output, Nat.le_trans h.size k.size, fun i hi hn => (k.block i (Nat.lt_of_lt_of_le hi h.size) fun hF => hn (hf i hi hF)).trans (h.block i hi hn)⟩
theorem Trd.of (h : Below w.heap.size w w') : Trd F w w' := ⟨h.os, h.tape, h.output, h.size, fun k hk _ => h.block k hk⟩
theorem Trd.ofGrown {r : Option Nat} (h : w.grownBy w' r) (hr : ∀ k, r = some k → F k) : Trd F w w' := ⟨h.os, h.tape, h.output, h.size, fun k hk hn => h.block k hk fun e => hn (hr k e.symm)⟩
theorem Trd.below {n : Nat} (h : Trd F w w') (hn : n ≤ w.heap.size) (hf : ∀ k, k < n → ¬ F k) : Below n w w' := ⟨h.os, h.tape, h.output, h.size, fun k hk => h.block k (Nat.lt_of_lt_of_le hk hn) (hf k hk)⟩
theorem Trd.cell (h : Trd F w w') {k o : Nat} {v : Value} (hc : w.cell? ⟨k, o, none⟩ = some v) (hn : ¬ F k) : w'.cell? ⟨k, o, none⟩ = some v :=
  (cell_keep (h.block k (cell_lt hc) hn) o).trans hc
end
def RowQ (Te : TypeId) (sz : Nat) (w : World) (v : Value) (n : Nat) (vs : List Value) : Prop := w.ownsRow 0 Te sz v n vs ∧ ∀ u ∈ vs, u.oneCell' = true
section
variable {Te : TypeId} {sz n : Nat} {w w' : World} {v : Value} {vs : List Value}
theorem RowQ.len (h : RowQ Te sz w v n vs) : vs.length = n * sz := h.1.1
theorem RowQ.cases (h : RowQ Te sz w v n vs) : (v = .slice none 0 0 ∧ n = 0 ∧ vs = []) ∨ ∃ g cap cur, v = .slice (some ⟨g, 0, none⟩) n cap ∧ w.heap[g]? = some (.cells cur Te (0, 0)) ∧ n ≤ cap ∧ cap ≤ maxLen ∧ cur.size = cap * sz ∧ cur.toList.take (n * sz) = vs := by
  rcases h.1.2 with ⟨h1, h2⟩ | ⟨g, cap, cur, h1, _, h2, h3, h4, h5, h6⟩
  · refine .inl ⟨h1, h2, List.eq_nil_of_length_eq_zero ?_⟩
    rw [h.len, h2, Nat.zero_mul]
  · exact .inr ⟨g, cap, cur, h1, h2, h3, h4, h5, h6⟩
theorem RowQ.of {g cap : Nat} {cur : Array Value} (hg : w.heap[g]? = some (.cells cur Te (0, 0))) (h1 : n ≤ cap) (h2 : cap ≤ maxLen) (h3 : cur.size = cap * sz) (h4 : cur.toList.take (n * sz) = vs) (h5 : ∀ u ∈ vs, u.oneCell' = true) : RowQ Te sz w (.slice (some ⟨g, 0, none⟩) n cap) n vs := by
  refine ⟨⟨?_, .inr ⟨g, cap, cur, rfl, Nat.zero_le _, hg, h1, h2, h3, h4⟩⟩, h5⟩
  rw [← h4, List.length_take, Array.length_toList, h3]
  exact Nat.min_eq_left (Nat.mul_le_mul_right _ h1)
theorem RowQ.nil (Te : TypeId) (sz : Nat) (w : World) : RowQ Te sz w (.slice none 0 0) 0 [] := ⟨World.ownsRow_nil _ _ _ _, fun _ h => by cases h⟩
theorem RowQ.shape (h : RowQ Te sz w v n vs) : ∃ a c, v = .slice a n c ∧ n ≤ c ∧ c ≤ maxLen := by
  rcases h.cases with ⟨rfl, rfl, _⟩ | ⟨g, cap, cur, rfl, _, h1, h2, _⟩
  · exact ⟨none, 0, rfl, Nat.le_refl _, by unfold maxLen; omega⟩
  · exact ⟨_, _, rfl, h1, h2⟩
theorem RowQ.block (h : RowQ Te sz w v n vs) {k : Nat} (hk : v.ownBlock = some k) : ∃ cur, w.heap[k]? = some (.cells cur Te (0, 0)) := by
  rcases h.cases with ⟨rfl, _, _⟩ | ⟨g, cap, cur, rfl, hg, _⟩
  · simp [Value.ownBlock] at hk
  · simp [Value.ownBlock] at hk
    subst hk
    exact ⟨_, hg⟩
theorem RowQ.lt (h : RowQ Te sz w v n vs) {k : Nat} (hk : v.ownBlock = some k) : k < w.heap.size := by
  obtain ⟨_, hg⟩ := h.block hk
  exact (Array.getElem?_eq_some_iff.1 hg).1
theorem RowQ.kept (h : RowQ Te sz w v n vs) (hk : ∀ k, v.ownBlock = some k → w'.heap[k]? = w.heap[k]?) : RowQ Te sz w' v n vs := by
  refine ⟨⟨h.1.1, ?_⟩, h.2⟩
  rcases h.1.2 with h | ⟨g, cap, cur, rfl, h1, h2, h3⟩
  · exact .inl h
  · exact .inr ⟨g, cap, cur, rfl, h1, (hk g rfl).trans h2, h3⟩
theorem RowQ.below (h : RowQ Te sz w v n vs) (hb : Below w.heap.size w w') : RowQ Te sz w' v n vs := h.kept fun k e => hb.block k (h.lt e)
theorem RowQ.cell (h : RowQ Te sz w v n vs) {g : Nat} (hg : v.ownBlock = some g) {j : Nat} {u : Value} (hj : vs[j]? = some u) : w.cell? ⟨g, j, none⟩ = some u := by
  rcases h.cases with ⟨rfl, _, _⟩ | ⟨g', cap, cur, rfl, hb, _, _, _, ht⟩
  · simp [Value.ownBlock] at hg
  · simp [Value.ownBlock] at hg
    subst hg
    subst ht
    rw [List.getElem?_take] at hj
    split at hj
    · simp [World.cell?, hb, ← Array.getElem?_toList, hj]
    · cases hj
end
section
variable {P : Program} {T Te : TypeId} {n : Nat} {ops : Array Oper} {rest : List Oper} {o : Oper} {a : Act} {Q : Exit → Act → World → Prop} {w : World} {K : Act → World → Prop}
theorem wp_sliceRaw (hP : LsP P T Te n) {x : Operand} {lo hi : Option Operand} (ho : o.op = .slice T x lo hi none) {ad : Option Addr} {k c : Nat} (hx : a.eval x = .slice ad k c) {lov hiv : Option Value} (hlo : lo.map a.eval = lov) (hhi : hi.map a.eval = hiv)
    {l r : Nat} (hb : (Instr.sliceBounds true k c lov hiv none).run P w = .ok (l, r, c) w)
    (h : K (a.put o.dst (.slice (if c = l then ad else ad.map (·.add (l * n))) (r - l) (c - l))) w) : o.wp P a w K Q := by
  subst hlo; subst hhi
  unfold Oper.wp execOp
  simp only [ho, hx, Option.map_none, Sem.run_bind, Sem.run_pure, Result.andThen_ok, run_sliceL hP hb]
  exact h
theorem wp_sliceFrom (hP : LsP P T Te n) {x : Operand} {lo hi : Option Operand} (ho : o.op = .slice T x lo hi none) {g off k c : Nat} (hx : a.eval x = .slice (some ⟨g, off, none⟩) k c) {lov hiv : Option Value} (hlo : lo.map a.eval = lov) (hhi : hi.map a.eval = hiv)
    {l r : Nat} (hb : (Instr.sliceBounds true k c lov hiv none).run P w = .ok (l, r, c) w) (hne : c ≠ l)
    (h : K (a.put o.dst (.slice (some ⟨g, off + l * n, none⟩) (r - l) (c - l))) w) : o.wp P a w K Q := by
  refine wp_sliceRaw hP ho hx hlo hhi hb ?_
  rw [if_neg hne]
  simpa [Addr.add_lit] using h
theorem wp_sliceTo (hP : LsP P T Te n) {x : Operand} {hi : Option Operand} (ho : o.op = .slice T x none hi none) {g off k c : Nat} (hx : a.eval x = .slice (some ⟨g, off, none⟩) k c) {hiv : Option Value} (hhi : hi.map a.eval = hiv)
    {r : Nat} (hb : (Instr.sliceBounds true k c none hiv none).run P w = .ok (0, r, c) w)
    (h : K (a.put o.dst (.slice (some ⟨g, off, none⟩) r c)) w) : o.wp P a w K Q := by
  refine wp_sliceRaw hP ho hx rfl hhi hb ?_
  simp only [Nat.sub_zero, Nat.zero_mul, Option.map_some, Addr.add_lit, Nat.add_zero]
  split <;> exact h
theorem wpList_sliceFrom (hP : LsP P T Te n) {x : Operand} {lo hi : Option Operand} (ho : o.op = .slice T x lo hi none) (hgd : Region.wanted o (yielded ops a.tmps) = true) {g off k c : Nat} (hx : a.eval x = .slice (some ⟨g, off, none⟩) k c)
    {l r : Nat} (hb : (Instr.sliceBounds true k c (lo.map a.eval) (hi.map a.eval) none).run P w = .ok (l, r, c) w) (hne : c ≠ l)
    (h : wpList P ops Q rest (a.put o.dst (.slice (some ⟨g, off + l * n, none⟩) (r - l) (c - l))) w) : wpList P ops Q (o :: rest) a w :=
  BigFrame.wpList_want hgd fun _ hK => wp_sliceFrom hP ho hx rfl rfl hb hne (hK _ _ h)
theorem wpList_sliceTo (hP : LsP P T Te n) {x : Operand} {hi : Option Operand} (ho : o.op = .slice T x none hi none) (hgd : Region.wanted o (yielded ops a.tmps) = true) {g off k c : Nat} (hx : a.eval x = .slice (some ⟨g, off, none⟩) k c)
    {r : Nat} (hb : (Instr.sliceBounds true k c none (hi.map a.eval) none).run P w = .ok (0, r, c) w)
    (h : wpList P ops Q rest (a.put o.dst (.slice (some ⟨g, off, none⟩) r c)) w) : wpList P ops Q (o :: rest) a w :=
  BigFrame.wpList_want hgd fun _ hK => wp_sliceTo hP ho hx rfl hb (hK _ _ h)
def RowTo (Te : TypeId) (sz : Nat) (w : World) (v : Value) (n' : Nat) (vs' : List Value) (v' : Value) (w' : World) : Prop :=
  RowQ Te sz w' v' n' vs' ∧ w.grownBy w' v.ownBlock ∧ (v'.ownBlock = v.ownBlock ∨ ∃ k, v'.ownBlock = some k ∧ w.heap.size ≤ k)
theorem run_appQ (hP : LoP P T Te n) (h0 : 0 < n) (w : World) (ty : TypeId) {v : Value} {k : Nat} {vs : List Value} (hv : RowQ Te n w v k vs) {p : Addr} {m c : Nat} {cs : List Value} (hl : cs.length = m * n) (hc : ∀ j u, cs[j]? = some u → w.cell? (p.add j) = some u) (h1 : ∀ u ∈ cs, u.oneCell' = true) (hlen : k + m ≤ 1073741824) :
    ∃ v' w', (Builtin.append_ #[T, T] ty #[v, .slice (some p) m c]).run P w = .ok v' w' ∧ RowTo Te n w v (k + m) (vs ++ cs) v' w' := by
  obtain ⟨i, z, hi, hz, hsz, hby, hzs⟩ := hP.all
  obtain ⟨v', w', hr, ho, hg, _, hb⟩ := run_append_own_at (P := P) (w := w) 0 T ty Te i z n i.bytes hP.hT hi hz hsz rfl hzs h0 v k vs hv.1 p m c cs hl hc h1 (by unfold maxLen; omega)
    (by have := Nat.mul_le_mul hlen hby; omega) (Nat.zero_le _)
  exact ⟨v', w', hr, ⟨ho, fun u hu => (List.mem_append.1 hu).elim (hv.2 u) (h1 u)⟩, hg, hb.imp id fun e => ⟨_, e, Nat.le_refl _⟩⟩
theorem wp_appQ (hP : LoP P T Te n) (h0 : 0 < n) {s x : Operand} (ho : o.op = .call { callee := .builtin .append, args := #[s, x], argTypes := #[T, T] }) {v : Value} {k : Nat} {vs : List Value} (hs : a.eval s = v) (hv : RowQ Te n w v k vs) {p : Addr} {m c : Nat} {cs : List Value} (hx : a.eval x = .slice (some p) m c)
    (hl : cs.length = m * n) (hc : ∀ j u, cs[j]? = some u → w.cell? (p.add j) = some u) (h1 : ∀ u ∈ cs, u.oneCell' = true) (hlen : k + m ≤ 1073741824)
    (h : ∀ ad cap w', RowTo Te n w v (k + m) (vs ++ cs) (.slice ad (k + m) cap) w' → K (a.put o.dst (.slice ad (k + m) cap)) w') : o.wp P a w K Q := by
  obtain ⟨v', w', hrun, h2⟩ := run_appQ hP h0 w o.type hv hl hc h1 hlen (c := c)
  obtain ⟨ad, cap, rfl, _⟩ := h2.1.shape
  unfold Oper.wp execOp
  simp only [ho, resolve, invoke, builtin, Sem.run_bind, Sem.run_pure, Result.andThen_ok, List.map_toArray, List.map_cons, List.map_nil, hs, hx, hrun]
  exact h _ _ _ h2
theorem wpList_appQ (hP : LoP P T Te n) (h0 : 0 < n) {s x : Operand} (ho : o.op = .call { callee := .builtin .append, args := #[s, x], argTypes := #[T, T] }) (hgd : Region.wanted o (yielded ops a.tmps) = true) {v : Value} {k : Nat} {vs : List Value} (hs : a.eval s = v) (hv : RowQ Te n w v k vs) {p : Addr} {m c : Nat} {cs : List Value} (hx : a.eval x = .slice (some p) m c)
    (hl : cs.length = m * n) (hc : ∀ j u, cs[j]? = some u → w.cell? (p.add j) = some u) (h1 : ∀ u ∈ cs, u.oneCell' = true) (hlen : k + m ≤ 1073741824)
    (h : ∀ ad cap w', RowTo Te n w v (k + m) (vs ++ cs) (.slice ad (k + m) cap) w' → wpList P ops Q rest (a.put o.dst (.slice ad (k + m) cap)) w') : wpList P ops Q (o :: rest) a w :=
  BigFrame.wpList_want hgd fun _ hK => wp_appQ hP h0 ho hs hv hx hl hc h1 hlen fun ad cap w' h2 => hK _ _ (h ad cap w' h2)
theorem run_appZ (hP : LoP P T Te n) (h0 : 0 < n) {Ti : TypeId} (hTi : P.underlying Ti = some (.int .i64)) (w : World) (ty : TypeId) {p : Option Addr} {k cap : Nat} {cs : List Value} (hl : cs.length = k * n) (hc : ∀ q, p = some q → ∀ j u, cs[j]? = some u → w.cell? (q.add j) = some u) (hm : p = none → k = 0) {m : Nat} (hm0 : 0 < m) (hg : cap < k + m) (hlen : k + m ≤ 1073741824) :
    ∃ (G : Nat) (cur : Array Value), k + m ≤ G ∧ G ≤ maxLen ∧ cur.size = G * n ∧ cur.toList.take (k * n) = cs ∧
      (Builtin.append_ #[T, Ti] ty #[.slice p k cap, .int .i64 m]).run P w = .ok (.slice (some ⟨w.heap.size, 0, none⟩) (k + m) G) (w.drew.alloc (.cells cur Te)) := by
  obtain ⟨i, z, hi, hz, hsz, hby, hzs⟩ := hP.all
  have hold : (Builtin.firstCells i.size k (.slice p k cap)).run P w.drew = .ok cs.toArray w.drew := by
    rw [hsz]
    cases p with
    | none =>
      obtain rfl := hm rfl
      obtain rfl : cs = [] := List.eq_nil_of_length_eq_zero (by omega)
      simp [Builtin.firstCells]
    | some q => exact run_firstCells_some w.drew n k q k cap cs hl (hc q rfl)
  have hbytes : (k + m) * i.bytes ≤ 1073741824 * 4096 := Nat.mul_le_mul hlen hby
  have hmb : m * i.bytes ≤ 1073741824 * 4096 := Nat.mul_le_mul (by omega) hby
  have hr := Lib.run_append_grow_zeros w T Ti ty Te i z .i64 .i64 hP.hT hTi hi hz p k cap cs hold m hm0 (by omega) hg (by omega) (by omega) (growslice_fits hg (by omega))
  refine ⟨_, _, grownCap_ge w (k + m) cap Te, grownCap_le_maxLen w _ _ _ (by unfold maxLen; omega), ?_, ?_, hr⟩
  · have hge := grownCap_ge w (k + m) cap Te
    simp only [Array.size_append, List.size_toArray, size_zeroCells, hzs, hl, ← Nat.add_mul]
    congr 1
    omega
  · simp only [Array.toList_append, List.append_assoc]
    rw [← hl]
    exact List.take_left
theorem wpList_appZ (hP : LoP P T Te n) (h0 : 0 < n) {Ti : TypeId} (hTi : P.underlying Ti = some (.int .i64)) {s x : Operand} (ho : o.op = .call { callee := .builtin .append, args := #[s, x], argTypes := #[T, Ti] }) (hgd : Region.wanted o (yielded ops a.tmps) = true) {p : Option Addr} {k cap m : Nat} {i : Int} (hs : a.eval s = .slice p k cap) (hx : a.eval x = .int .i64 i) (him : i = (m : Int))
    {cs : List Value} (hl : cs.length = k * n) (hc : ∀ q, p = some q → ∀ j u, cs[j]? = some u → w.cell? (q.add j) = some u) (hm : p = none → k = 0) (hm0 : 0 < m) (hg : cap < k + m) (hlen : k + m ≤ 1073741824)
    (h : ∀ (G : Nat) (cur : Array Value), k + m ≤ G → G ≤ maxLen → cur.size = G * n → cur.toList.take (k * n) = cs → wpList P ops Q rest (a.put o.dst (.slice (some ⟨w.heap.size, 0, none⟩) (k + m) G)) (w.drew.alloc (.cells cur Te))) : wpList P ops Q (o :: rest) a w := by
  subst him
  refine BigFrame.wpList_want hgd fun K hK => ?_
  obtain ⟨G, cur, h1, h2, h3, h4, hr⟩ := run_appZ hP h0 hTi w o.type hl hc hm hm0 hg hlen
  unfold Oper.wp execOp
  simp only [ho, resolve, invoke, builtin, Sem.run_bind, Sem.run_pure, Result.andThen_ok, List.map_toArray, List.map_cons, List.map_nil, hs, hx, hr]
  exact hK _ _ (h G cur h1 h2 h3 h4)
theorem run_clearQ (hP : LoP P T Te n) (hz1 : ∀ i z, P.info? Te = some i → i.zero = some z → ∀ u ∈ z.cells.toList, u.oneCell' = true) (w : World) (ty : TypeId) {ad : Option Addr} {m c : Nat} {g off : Nat} {cur : Array Value} {t : TypeId} (hg : w.heap[g]? = some (.cells cur t (0, 0))) (had : m = 0 ∨ ad = some ⟨g, off, none⟩) (hfit : m = 0 ∨ off + m * n ≤ cur.size) :
    ∃ w' cur', (Builtin.clear_ #[T] ty #[.slice ad m c]).run P w = .ok (.tuple #[]) w' ∧ w'.heap[g]? = some (.cells cur' t (0, 0)) ∧ cur'.size = cur.size ∧ (m ≠ 0 → cur'.toList.take off = cur.toList.take off) ∧ (m = 0 → cur' = cur) ∧ w.grownBy w' (some g) := by
  obtain ⟨i, z, hi, hz, hsz, hby, hzs⟩ := hP.all
  by_cases h0 : m = 0
  · subst h0
    refine ⟨w, cur, ?_, hg, rfl, fun _ => rfl, fun _ => rfl, ⟨rfl, rfl, rfl, Nat.le_refl _, fun _ _ _ => rfl⟩⟩
    cases ad <;> simp [Builtin.clear_, run_underlying hP.hT]
  · obtain rfl := had.resolve_left h0
    have hfit := hfit.resolve_left h0
    have hzl : (Builtin.zeroCells z.cells m).toList.length = m * n := by rw [Array.length_toList, size_zeroCells, hzs]
    have h1 : ∀ u ∈ (Builtin.zeroCells z.cells m).toList, u.oneCell' = true := by
      intro u hu
      simp only [Builtin.zeroCells, Array.toList_map, List.mem_map] at hu
      obtain ⟨j, hj, rfl⟩ := hu
      simp only [Array.toList_range, List.mem_range] at hj
      have h2 : 0 < z.cells.size := by
        rcases Nat.eq_zero_or_pos z.cells.size with h | h
        · rw [h, Nat.mul_zero] at hj; omega
        · exact h
      have h3 := Nat.mod_lt j h2
      rw [getElem!_pos z.cells _ h3]
      exact hz1 i z hi hz _ (by simp)
    have hst := run_storeCells_at P g off t _ 0 cur w hg (by rw [hzl]; simpa using hfit) h1
    simp only [Nat.add_zero] at hst
    refine ⟨_, (cur.toList.take off ++ (Builtin.zeroCells z.cells m).toList ++ cur.toList.drop (off + (Builtin.zeroCells z.cells m).toList.length)).toArray, ?_, setRow_heap w g cur _ t _ hg, ?_, ?_, fun h => absurd h h0, grown_setRow _ _ _⟩
    rotate_left
    · simp only [List.size_toArray, List.length_append, List.length_take, List.length_drop, hzl, Array.length_toList]
      omega
    · intro _
      simp only [List.append_assoc]
      rw [List.take_append_of_le_length (by rw [List.length_take, Array.length_toList]; omega), List.take_take, Nat.min_self]
    · obtain ⟨m', rfl⟩ : ∃ m', m = m' + 1 := ⟨m - 1, by omega⟩
      have hzv : (zeroValue Te).run P w = .ok z w := by simp [zeroValue, typeInfo, hi, hz]
      simp only [Builtin.clear_, List.getElem?_toArray, List.getElem?_cons_zero, Sem.run_bind, run_underlying hP.hT, Result.andThen_ok, hzv, hst, Sem.run_pure]
end
end Go.Proofs.YtccoklhmbikfmaaDoor
