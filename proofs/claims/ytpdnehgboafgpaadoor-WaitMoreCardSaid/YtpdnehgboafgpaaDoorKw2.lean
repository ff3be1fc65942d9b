/-
  TEXTS OF ONE PROOF, merged: Aux, SumM, Kept, Box, Ltb, DltM, Dlt, Cmp, SpnM, Spn, LkM, Lok, LkZ.
-/
import Derived.BigFrame
import Derived.ChangeAlike
import Derived.Deep.Matrix
import Derived.Laws.MakeOwn
import Derived.Laws.OwnMore
import Derived.Laws.Tables
import Derived.Lib.Bytealg
import Derived.Lib.BytesEntry
import Derived.Lib.SmallJoins
import Derived.RegionTactic
import Derived.Test.YtpdnehgboafgpaaDoorKw1
namespace Go.Proofs.YtpdnehgboafgpaaDoor
open Go.RowKit
theorem byP : ByP Tryd.prog 25 5 9 := ⟨by kernel_rfl, by kernel_rfl, by kernel_rfl, by kernel_rfl⟩
end Go.Proofs.YtpdnehgboafgpaaDoor
namespace Go.Proofs.YtpdnehgboafgpaaDoor
def sX : List UInt8 → Nat
  | [] => 0
  | c :: r => c.toNat + sX r
def sY : List UInt8 → Nat
  | [] => 0
  | c :: r => (r.length + 1) * c.toNat + sY r
end Go.Proofs.YtpdnehgboafgpaaDoor
namespace Go.Proofs.YtpdnehgboafgpaaDoor
open Go.RowKit
def NotU8 (v : Value) : Prop := ∀ i, v ≠ .int .u8 i
def IsBox (w : World) (t : TypeId) (b : Nat) : Prop := ∃ x y, w.heap[b]? = some (.cells #[x, y] t (0, 0)) ∧ NotU8 x ∧ NotU8 y
def BoxK (ok : Nat → Prop) (t : TypeId) (A B : World) : Prop := A = B ∨ ∃ b, ok b ∧ A.grownBy B (some b) ∧ IsBox A t b ∧ IsBox B t b
section
variable {P : Program} {Q : Exit → Act → World → Prop}
def kk (ok : Nat → Prop) (t : TypeId) (m : Nat) (i : Nat) (A B : World) : Prop := if i = m then BoxK ok t A B else Below A.heap.size A B
end
section
variable {P : Program} {t : TypeId} {x0 y0 : Value} {o : Oper} {a : Act} {K : Act → World → Prop} {Q : Exit → Act → World → Prop} {w : World}
theorem wp_skip {w2 : World} (hrun : (execOp a.eval o).run P w = .ok .skip w2) (h : K (a.put o.dst undef) w2) : o.wp P a w K Q := by
  unfold Oper.wp
  rw [hrun]
  exact h
end
end Go.Proofs.YtpdnehgboafgpaaDoor
namespace Go.Proofs.YtpdnehgboafgpaaDoor
open Go.RowKit
def BoxN (W : World) (b : Nat) (t : TypeId) (vs : List Value) : Prop := W.heap[b]? = some (.cells vs.toArray t (0, 0))
section
variable {W W' : World} {b : Nat} {t : TypeId} {vs : List Value}
theorem BoxN.new (W : World) (t : TypeId) (vs : List Value) : BoxN (W.alloc (.cells vs.toArray t)) W.heap.size t vs := by unfold BoxN; simp only [World.alloc, Array.getElem?_push_size]
theorem BoxN.lt (h : BoxN W b t vs) : b < W.heap.size := (Array.getElem?_eq_some_iff.1 h).1
theorem BoxN.cell (h : BoxN W b t vs) {i : Nat} {u : Value} (hi : vs[i]? = some u) : W.cell? ⟨b, i, none⟩ = some u := by simp [World.cell?, show W.heap[b]? = _ from h, hi]
theorem BoxN.frozen (h : BoxN W b t vs) (i : Nat) : W.frozen? ⟨b, i, none⟩ = false := by simp [World.frozen?, show W.heap[b]? = _ from h]
theorem BoxN.below {n : Nat} (h : BoxN W b t vs) (hb : Below n W W') (hn : b < n) : BoxN W' b t vs := (hb.block b hn).trans h
theorem BoxN.other {c : Option Nat} (h : BoxN W b t vs) (hg : W.grownBy W' c) (hn : c ≠ some b) : BoxN W' b t vs := (hg.block b h.lt fun e => hn e.symm).trans h
end
section
variable {P : Program} {t : TypeId} {n : Nat} {ops : Array Oper} {rest : List Oper} {o : Oper} {a : Act} {K : Act → World → Prop} {Q : Exit → Act → World → Prop} {w : World}
theorem wp_boxNew {vs : List Value} (hz : (P.info? t).bind (·.zero) = some (.agg vs.toArray)) (ho : o.op = .alloc t) (h : ∀ w', Below w.heap.size w w' → BoxN w' w.heap.size t vs → K (a.put o.dst (.pointer (some ⟨w.heap.size, 0, none⟩))) w') : o.wp P a w K Q := by
  have hzz : (zeroValue t).run P w = .ok (.agg vs.toArray) w := by
    cases hi : P.info? t with
    | none => simp [hi] at hz
    | some i => simp [hi] at hz; simp [zeroValue, typeInfo, hi, hz]
  have hrun : (execOp a.eval o).run P w = .ok (.value (.pointer (some ⟨w.heap.size, 0, none⟩))) (w.alloc (.cells vs.toArray t)) := by
    simp [execOp, ho, newVar, hzz, Value.cells, go_sem]
  unfold Oper.wp
  rw [hrun]
  exact h _ ((Below.refl _ _).alloc (Nat.le_refl _) _) (BoxN.new w t vs)
theorem wpList_boxNew {vs : List Value} (hz : (P.info? t).bind (·.zero) = some (.agg vs.toArray)) (ho : o.op = .alloc t) (hgd : Region.wanted o (yielded ops a.tmps) = true) (h : ∀ w', Below w.heap.size w w' → BoxN w' w.heap.size t vs → wpList P ops Q rest (a.put o.dst (.pointer (some ⟨w.heap.size, 0, none⟩))) w') : wpList P ops Q (o :: rest) a w :=
  BigFrame.wpList_want hgd fun _ hK => wp_boxNew hz ho fun w' h1 h2 => hK _ _ (h w' h1 h2)
theorem wp_boxStore {vs us : List Value} {x y : Operand} {b : Nat} (hs : (P.info? t).map (·.size) = some us.length) (ho : o.op = .store t x y) (hx : a.eval x = .pointer (some ⟨b, 0, none⟩)) (hy : a.eval y = .agg us.toArray) (h1 : us.all (·.oneCell') = true) (hb : BoxN w b t vs) (hl : vs.length = us.length)
    (h : ∀ w', w.grownBy w' (some b) → BoxN w' b t us → K (a.put o.dst undef) w') : o.wp P a w K Q := by
  refine wp_store_row t x y ho b us.toArray hx hy t vs.toArray hb (by simpa using hs) (by simp [hl]) (by simpa using h1) (h _ ⟨rfl, rfl, rfl, by simp [World.setRow], fun k _ hk => ?_⟩ ?_)
  · have hkb : k ≠ b := fun e => hk (by rw [e])
    simp [World.setRow, Array.getElem?_modify, Ne.symm hkb]
  · unfold BoxN at hb ⊢
    simp [World.setRow, Array.getElem?_modify, hb]
theorem wpList_boxStore {vs us : List Value} {x y : Operand} {b : Nat} (hs : (P.info? t).map (·.size) = some us.length) (ho : o.op = .store t x y) (hd : o.dst = none) (hgd : Region.wanted o (yielded ops a.tmps) = true) (hx : a.eval x = .pointer (some ⟨b, 0, none⟩)) (hy : a.eval y = .agg us.toArray) (h1 : us.all (·.oneCell') = true) (hb : BoxN w b t vs) (hl : vs.length = us.length)
    (h : ∀ w', w.grownBy w' (some b) → BoxN w' b t us → wpList P ops Q rest a w') : wpList P ops Q (o :: rest) a w :=
  BigFrame.wpList_want hgd fun _ hK => wp_boxStore hs ho hx hy h1 hb hl fun w' h3 h4 => hK _ _ (by rw [hd]; exact h w' h3 h4)
theorem wp_boxSet {t2 : TypeId} {vs : List Value} {x y : Operand} {b j : Nat} {u : Value} (ho : o.op = .store t2 x y) (hs : (P.info? t2).map (·.size) = some 1) (hx : a.eval x = .pointer (some ⟨b, j, none⟩)) (hy : a.eval y = u) (hu : u.cells = #[u]) (h1 : u.oneCell' = true) (hb : BoxN w b t vs) (hj : j < vs.length)
    (h : ∀ w', w.grownBy w' (some b) → BoxN w' b t (vs.set j u) → K (a.put o.dst undef) w') : o.wp P a w K Q := by
  have hc := hb.cell (i := j) (List.getElem?_eq_getElem hj)
  have hf := hb.frozen j
  refine wp_skip ?_ (h (w.setCell ⟨b, j, none⟩ u) ⟨rfl, rfl, rfl, by simp [World.setCell], fun k _ hk => heap_setCell_other _ ⟨b, j, none⟩ k _ fun e => hk (by rw [e])⟩ ?_)
  · simp only [execOp, ho, hx, hy]
    have hu' := hu
    unfold Value.cells at hu'
    simp [Instr.storeAt, storeVar, run_sizeOf' hs, storeCells, hu', run_store _ _ _ _ _ h1, hc, hf, Addr.add, go_sem]
  · unfold BoxN at hb ⊢
    simp only [World.setCell, Array.getElem?_modify, hb]
    simp
theorem wpList_boxSet {t2 : TypeId} {vs : List Value} {x y : Operand} {b j : Nat} {u : Value} (ho : o.op = .store t2 x y) (hd : o.dst = none) (hgd : Region.wanted o (yielded ops a.tmps) = true) (hs : (P.info? t2).map (·.size) = some 1) (hx : a.eval x = .pointer (some ⟨b, j, none⟩)) (hy : a.eval y = u) (hu : u.cells = #[u]) (h1 : u.oneCell' = true) (hb : BoxN w b t vs) (hj : j < vs.length)
    (h : ∀ w', w.grownBy w' (some b) → BoxN w' b t (vs.set j u) → wpList P ops Q rest a w') : wpList P ops Q (o :: rest) a w :=
  BigFrame.wpList_want hgd fun _ hK => wp_boxSet ho hs hx hy hu h1 hb hj fun w' h3 h4 => hK _ _ (by rw [hd]; exact h w' h3 h4)
theorem wp_load2 (hP : StP P t 2) {x : Operand} {b off : Nat} {u v : Value} (ho : o.op = .load t x) (hx : a.eval x = .pointer (some ⟨b, off, none⟩)) (h0 : w.cell? ⟨b, off, none⟩ = some u) (h1 : w.cell? ⟨b, off + 1, none⟩ = some v) (h : K (a.put o.dst (.agg #[u, v])) w) : o.wp P a w K Q := by
  obtain ⟨fs, hu, hfs, hf⟩ := hP.hu
  refine wp_run' ?_ h
  simp only [execOp, ho, hx]
  simp [Instr.loadAt, loadVar, isAgg, run_underlying hu, run_sizeOf' hP.hs, loadCellsFrom, Addr.add, h0, h1, go_sem]
end
end Go.Proofs.YtpdnehgboafgpaaDoor
namespace Go.Proofs.YtpdnehgboafgpaaDoor
def ltB (a b : List UInt8) : Bool := Op.bytesLess a b
theorem ltB_irrefl : ∀ a, ltB a a = false
  | [] => rfl
  | x :: a => by
    have h := ltB_irrefl a
    unfold ltB at h ⊢
    simp [Op.bytesLess, h]
theorem ltB_trans : ∀ {a b c}, ltB a b = true → ltB b c = true → ltB a c = true
  | _, [], _, h, _ => by cases ‹List UInt8› <;> simp [ltB, Op.bytesLess] at h
  | _, _ :: _, [], _, h => by simp [ltB, Op.bytesLess] at h
  | [], _ :: _, _ :: _, _, _ => rfl
  | x :: a, y :: b, z :: c, h, k => by
    simp only [ltB, Op.bytesLess, Bool.or_eq_true, decide_eq_true_eq, Bool.and_eq_true, beq_iff_eq] at h k ⊢
    rcases h with h | ⟨rfl, h⟩
    · rcases k with k | ⟨rfl, k⟩
      · exact .inl (UInt8.lt_trans h k)
      · exact .inl h
    · rcases k with k | ⟨rfl, k⟩
      · exact .inl k
      · exact .inr ⟨rfl, ltB_trans (a := a) (b := b) (c := c) h k⟩
theorem ltB_total : ∀ {a b}, a ≠ b → ltB a b = false → ltB b a = true
  | [], [], h, _ => absurd rfl h
  | [], _ :: _, _, h => by simp [ltB, Op.bytesLess] at h
  | _ :: _, [], _, _ => rfl
  | x :: a, y :: b, hne, h => by
    simp only [ltB, Op.bytesLess, Bool.or_eq_false_iff, Bool.and_eq_false_iff, decide_eq_false_iff_not, beq_eq_false_iff_ne, Bool.or_eq_true, decide_eq_true_eq, Bool.and_eq_true, beq_iff_eq] at h ⊢
    obtain ⟨h1, h2⟩ := h
    by_cases hxy : x = y
    · subst hxy
      rcases h2 with h2 | h2
      · exact absurd rfl h2
      · exact .inr ⟨rfl, ltB_total (a := a) (b := b) (fun e => hne (by rw [e])) h2⟩
    · refine .inl ?_
      rcases UInt8.lt_or_lt_of_ne (a := x) (b := y) hxy with h3 | h3
      · exact absurd h3 h1
      · exact h3
theorem ltB_asymm {a b : List UInt8} (h : ltB a b = true) : ltB b a = false := by
  cases hb : ltB b a with
  | false => rfl
  | true => rw [← ltB_irrefl a]; exact (ltB_trans h hb).symm
end Go.Proofs.YtpdnehgboafgpaaDoor
namespace Go.Proofs.YtpdnehgboafgpaaDoor
section
variable {K α : Type} [DecidableEq K] (lt : K → K → Bool) (key : α → K)
def SrtE (l : List α) : Prop := l.Pairwise fun a b => lt (key a) (key b) = true
variable {lt key}
end
structure Wr where
  table : Int
  key : List UInt8
  gone : Bool
  val : List UInt8
deriving DecidableEq
structure Pq where
  key : List UInt8
  val : List UInt8
deriving DecidableEq
structure Dl where
  writes : List Wr
  marks : List Int
deriving DecidableEq
structure Sp where
  table : Int
  lo : List UInt8
  hi : List UInt8
  isOpen : Bool
deriving DecidableEq
def mayW (w : Wr) : Prop := 0 ≤ w.table ∧ w.table ≤ 3 ∧ w.key.length ≤ 16 ∧ w.val.length ≤ 32 ∧ (w.gone = true → w.val = [])
instance (w : Wr) : Decidable (mayW w) := by unfold mayW; exact inferInstance
def okM (n : Int) : Int → List Int → Prop
  | _, [] => True
  | l, m :: ms => l ≤ m ∧ m ≤ n ∧ okM n m ms
instance decM (n : Int) : ∀ l ms, Decidable (okM n l ms)
  | _, [] => isTrue trivial
  | l, m :: ms => by unfold okM; have := decM n m ms; exact inferInstance
def okD (d : Dl) : Prop := d.writes.length ≤ 20 ∧ d.marks.length ≤ 4 ∧ (∀ w ∈ d.writes, mayW w) ∧ okM d.writes.length 0 d.marks
instance (d : Dl) : Decidable (okD d) := by unfold okD; exact inferInstance
def inS (x : Sp) (k : List UInt8) : Bool := !ltB k x.lo && (x.isOpen || ltB k x.hi)
abbrev SrtQ (l : List Pq) : Prop := SrtE ltB Pq.key l
instance (l : List Pq) : Decidable (SrtQ l) := by unfold SrtQ SrtE; exact inferInstance
end Go.Proofs.YtpdnehgboafgpaaDoor
namespace Go.Proofs.YtpdnehgboafgpaaDoor
open Go.ChangeShapes Go.WideShapes Go.ChangeAt Go.RowKit Go.Deep Go.Joins
def W64 (s : Int) : Prop := -9223372036854775808 ≤ s ∧ s ≤ 9223372036854775807
theorem w64w {n : Int} (h : (Lit.int .i64 n).wf = true) : W64 n := by
  simp [Lit.wf, IntKind.min, IntKind.max, IntKind.signed, IntKind.bits] at h
  exact ⟨by omega, by omega⟩
def wrC (x : Wr) (k v : Value) : List Value := [.int .i64 x.table, k, .bool x.gone, v]
def Elt.wr : Elt Wr where
  size := 4
  pos := by omega
  R S w x vs := ∃ k v, vs = wrC x k v ∧ RdS S w k x.key ∧ RdS S w v x.val ∧ W64 x.table
  len := by rintro _ _ _ _ ⟨_, _, rfl, _⟩; rfl
  keep := by rintro _ _ _ _ _ ⟨k, v, rfl, h, h1, h2⟩ hk; exact ⟨k, v, rfl, h.keep hk, h1.keep hk, h2⟩
  weak := by rintro _ _ _ _ _ ⟨k, v, rfl, h, h1, h2⟩ hk; exact ⟨k, v, rfl, h.weak hk, h1.weak hk, h2⟩
  fit := by rintro _ _ _ _ ⟨k, v, rfl, h, h1, h2⟩; exact ⟨k, v, rfl, h.fit, h1.fit, h2⟩
  one := by
    rintro _ _ _ _ ⟨k, v, rfl, h, h1, _⟩ u hu
    have h3 := h.one
    have h4 := h1.one
    simp only [wrC, List.mem_cons, List.not_mem_nil, or_false] at hu
    rcases hu with rfl | rfl | rfl | rfl
    · rfl
    · exact h3
    · rfl
    · exact h4
def Elt.int : Elt Int where
  size := 1
  pos := by omega
  R _ _ x vs := vs = [.int .i64 x] ∧ W64 x
  len := by rintro _ _ _ _ ⟨rfl, _⟩; rfl
  keep := by rintro _ _ _ _ _ h _; exact h
  weak := by rintro _ _ _ _ _ h _; exact h
  fit := by rintro _ _ _ _ h; exact h
  one := by
    rintro _ _ _ _ ⟨rfl, _⟩ u hu
    simp only [List.mem_cons, List.not_mem_nil, or_false] at hu
    subst hu; rfl
theorem inP : LoP Tryd.prog 34 3 1 := ⟨⟨by kernel_rfl, by kernel_rfl⟩, .int .i64 0, 8, by kernel_rfl, rfl, by omega⟩
section
variable {S S' : Nat → Prop} {w w' : World} {v : Value}
theorem RdL.num {a : Option Addr} {n c : Nat} {l : List Int} (h : RdL Elt.int S w (.slice a n c) l) (r : Nat) (hr : r < l.length) :
    ∃ b off, a = some ⟨b, off, none⟩ ∧ S b ∧ w.cell? ⟨b, off + r, none⟩ = some (.int .i64 l[r]) ∧ W64 l[r] := by
  obtain ⟨b, off, vs, rfl, hb, ⟨rfl, hi⟩, hc⟩ := h.at r hr
  have := hc 0 _ rfl
  exact ⟨b, off, rfl, hb, by simpa [Elt.int] using this, hi⟩
def RdSp (S : Nat → Prop) (w : World) (v : Value) (x : Sp) : Prop := ∃ a c a2 c2, v = .agg #[.int .i64 x.table, .slice a x.lo.length c, .slice a2 x.hi.length c2, .bool x.isOpen] ∧ RdS S w (.slice a x.lo.length c) x.lo ∧ RdS S w (.slice a2 x.hi.length c2) x.hi ∧ W64 x.table
end
end Go.Proofs.YtpdnehgboafgpaaDoor
namespace Go.Proofs.YtpdnehgboafgpaaDoor
open Go.RowKit
theorem u8_tri (x y : UInt8) : x < y ∨ x = y ∨ y < x := by
  rcases Nat.lt_trichotomy x.toNat y.toNat with h | h | h
  · exact .inl (UInt8.lt_iff_toNat_lt.2 h)
  · exact .inr (.inl (UInt8.toNat_inj.1 h))
  · exact .inr (.inr (UInt8.lt_iff_toNat_lt.2 h))
theorem cmp_lt : ∀ (a b : List UInt8), decide (Lib.compareBytes a b < 0) = ltB a b
  | [], [] => rfl
  | [], _ :: _ => rfl
  | _ :: _, [] => rfl
  | x :: a, y :: b => by
    have ih := cmp_lt a b
    unfold Lib.compareBytes ltB Op.bytesLess
    unfold ltB at ih
    rcases u8_tri x y with h | h | h
    · simp [h]
    · subst h
      simp [UInt8.lt_irrefl, ih]
    · have h1 : ¬ x < y := UInt8.lt_asymm h
      have h2 : x ≠ y := fun e => by subst e; exact UInt8.lt_irrefl _ h
      simp [h, h1, h2]
theorem cmp_eq : ∀ (a b : List UInt8), (Lib.compareBytes a b == 0) = decide (a = b)
  | [], [] => rfl
  | [], _ :: _ => rfl
  | _ :: _, [] => rfl
  | x :: a, y :: b => by
    have ih := cmp_eq a b
    unfold Lib.compareBytes
    rcases u8_tri x y with h | h | h
    · have h2 : x ≠ y := fun e => by subst e; exact UInt8.lt_irrefl _ h
      simp [h, h2]
    · subst h
      simp [UInt8.lt_irrefl, ih]
    · have h1 : ¬ x < y := UInt8.lt_asymm h
      have h2 : x ≠ y := fun e => by subst e; exact UInt8.lt_irrefl _ h
      simp [h, h1, h2]
theorem cmp_ge (a b : List UInt8) : decide (0 ≤ Lib.compareBytes a b) = !ltB a b := by
  rw [← cmp_lt]
  by_cases h : Lib.compareBytes a b < 0
  · simp [h]
  · simp [h]; omega
theorem run_bytes {P : Program} {S : Nat → Prop} {w : World} {v : Value} {xs : List UInt8} (h : RdS S w v xs) : (Extern.Bytes.bytesOf v).run P w = .ok ⟨xs.toArray⟩ w := by
  rcases h with ⟨a, c, rfl, _, rfl⟩ | ⟨b, off, cap, rfl, _, _, _, hc⟩
  · cases a with
    | none => rfl
    | some p => simp [Extern.Bytes.bytesOf, Extern.Bytes.loadBytes]; rfl
  · have := Lib.run_loadBytesX (P := P) (w := w) (xs.map fun b => (b.toNat : Int)) ⟨b, off, none⟩ .empty (fun j x hj => by
      rw [Addr.add_lit]
      refine hc j _ ?_
      rw [List.getElem?_map] at hj
      cases he : xs[j]? with
      | none => rw [he] at hj; cases hj
      | some y =>
        rw [he] at hj
        simp only [Option.map_some, Option.some.injEq] at hj
        subst hj
        simp [bv, he])
    rw [List.length_map] at this
    simp only [Extern.Bytes.bytesOf, this]
    have e : Lib.bytesOf (xs.map fun b => (b.toNat : Int)) = xs := by
      unfold Lib.bytesOf
      rw [List.map_map]
      exact (List.map_congr_left fun b _ => by simp).trans (List.map_id _)
    rw [e]
    show Result.ok (⟨#[] ++ xs.toArray⟩ : ByteArray) w = _
    rw [Array.empty_append]
theorem run_compare {P : Program} {S S2 : Nat → Prop} {w : World} {va vb : Value} {xs ys : List UInt8} (hx : RdS S w va xs) (hy : RdS S2 w vb ys) :
    (Extern.BytealgCompare.compare #[va, vb]).run P w = .ok (.int .i64 (Lib.compareBytes xs ys)) w := by
  change Sem.run P (do pure (goInt (Extern.BytealgCompare.cmp (← Extern.Bytes.bytesOf va) (← Extern.Bytes.bytesOf vb)))) w = _
  simp only [Sem.run_bind, Sem.run_pure, run_bytes hx, run_bytes hy, Result.andThen]
  rw [Lib.cmp_eq]
  rfl
set_option maxRecDepth 100000 in
set_option maxHeartbeats 1000000 in
theorem compare_any (w : World) {S S2 : Nat → Prop} {a a2 : Option Addr} {n c n2 c2 : Nat} {xs ys : List UInt8} (hx : RdS S w (.slice a n c) xs) (hy : RdS S2 w (.slice a2 n2 c2) ys) :
    Calls Tryd.prog 84 #[.slice a n c, .slice a2 n2 c2] w fun e w' => e = .returned (.int .i64 (Lib.compareBytes xs ys)) ∧ w = w' := by
  have hc : (callFunc 88 #[.slice a n c, .slice a2 n2 c2]).run Tryd.prog w = .ok (.value (.int .i64 (Lib.compareBytes xs ys))) w := by
    rw [run_callFunc_extern Tryd.func88 (by kernel_rfl) (by kernel_rfl) (by kernel_rfl) (e := Extern.BytealgCompare.compare) (by kernel_rfl), run_compare hx hy]
    rfl
  go_enter Tryd.func84, Tryd.ntmps84
  go_wp2_with fail
  go_ret
  exact ⟨rfl, rfl⟩
end Go.Proofs.YtpdnehgboafgpaaDoor
namespace Go.Proofs.YtpdnehgboafgpaaDoor
def mayS (x : Sp) : Prop := 0 ≤ x.table ∧ x.table ≤ 3 ∧ x.lo.length ≤ 17 ∧ x.hi.length ≤ 17 ∧ (x.isOpen = true → x.hi = [])
instance (x : Sp) : Decidable (mayS x) := by unfold mayS; exact inferInstance
def emptyS (x : Sp) : Bool := !x.isOpen && !ltB x.lo x.hi
def inT (x : Sp) (t : Int) (k : List UInt8) : Bool := decide (x.table = t) && inS x k
def meetsS (a b : Sp) : Bool := (inT a a.table a.lo && inT b a.table a.lo) || (inT a a.table b.lo && inT b a.table b.lo)
def coversS (a b : Sp) : Bool := emptyS b || (decide (a.table = b.table) && !ltB b.lo a.lo && (a.isOpen || (!b.isOpen && !ltB a.hi b.hi)))
def pointS (t : Int) (k : List UInt8) : Sp := ⟨t, k, k ++ [0], false⟩
def shortS (x : Sp) : Prop := x.lo.length ≤ 100 ∧ x.hi.length ≤ 100
instance (x : Sp) : Decidable (shortS x) := by unfold shortS; exact inferInstance
def fewS (l : List Sp) : Prop := l.length ≤ 100 ∧ ∀ x ∈ l, x.lo.length ≤ 100 ∧ x.hi.length ≤ 100
instance (l : List Sp) : Decidable (fewS l) := by unfold fewS; exact inferInstance
def okA (l : List Sp) (x : Sp) (m : Int) : Prop := mayS x ∧ (∀ y ∈ l, mayS y) ∧ 1 ≤ m ∧ m ≤ 100
instance (l : List Sp) (x : Sp) (m : Int) : Decidable (okA l x m) := by unfold okA; exact inferInstance
theorem lt_of_leB {a b c : List UInt8} (h1 : ltB b a = false) (h2 : ltB b c = true) : ltB a c = true := by
  by_cases e : a = b
  · subst e; exact h2
  · exact ltB_trans (ltB_total (fun e2 => e e2.symm) h1) h2
theorem inS_iff {x : Sp} {k : List UInt8} : inS x k = true ↔ ltB k x.lo = false ∧ (x.isOpen = true ∨ ltB k x.hi = true) := by
  unfold inS; simp
theorem inT_iff {x : Sp} {t : Int} {k : List UInt8} : inT x t k = true ↔ x.table = t ∧ inS x k = true := by
  unfold inT; simp
theorem inS_lo {x : Sp} {k : List UInt8} (h : inS x k = true) : inS x x.lo = true := by
  rw [inS_iff] at h ⊢
  exact ⟨ltB_irrefl _, h.2.imp id fun h2 => lt_of_leB h.1 h2⟩
theorem meets_iff {a b : Sp} : meetsS a b = true ↔ a.table = b.table ∧ ∃ k, inS a k = true ∧ inS b k = true := by
  unfold meetsS
  simp only [Bool.or_eq_true, Bool.and_eq_true, inT_iff]
  constructor
  · rintro (⟨⟨_, h1⟩, h2, h3⟩ | ⟨⟨_, h1⟩, h2, h3⟩)
    · exact ⟨h2.symm, _, h1, h3⟩
    · exact ⟨h2.symm, _, h1, h3⟩
  · rintro ⟨ht, k, h1, h2⟩
    have ha := inS_lo h1
    have hb := inS_lo h2
    rw [inS_iff] at h1 h2
    by_cases hl : ltB a.lo b.lo = true
    · refine .inr ⟨⟨trivial, ?_⟩, ht.symm, hb⟩
      rw [inS_iff]
      exact ⟨ltB_asymm hl, h1.2.imp id fun h => lt_of_leB h2.1 h⟩
    · have hl := eq_false_of_ne_true hl
      refine .inl ⟨⟨trivial, ha⟩, ht.symm, ?_⟩
      rw [inS_iff]
      exact ⟨hl, h2.2.imp id fun h => lt_of_leB h1.1 h⟩
theorem meets_comm (a b : Sp) : meetsS a b = meetsS b a := by
  rw [Bool.eq_iff_iff, meets_iff, meets_iff]
  constructor
  · rintro ⟨h, k, h1, h2⟩; exact ⟨h.symm, k, h2, h1⟩
  · rintro ⟨h, k, h1, h2⟩; exact ⟨h.symm, k, h2, h1⟩
end Go.Proofs.YtpdnehgboafgpaaDoor
namespace Go.Proofs.YtpdnehgboafgpaaDoor
open Go.ChangeShapes Go.WideShapes Go.ChangeAt Go.RowKit Go.Deep Go.Joins
def spC (x : Sp) (k v : Value) : List Value := [.int .i64 x.table, k, v, .bool x.isOpen]
def Elt.sp : Elt Sp where
  size := 4
  pos := by omega
  R S w x vs := ∃ k v, vs = spC x k v ∧ RdS S w k x.lo ∧ RdS S w v x.hi ∧ W64 x.table
  len := by rintro _ _ _ _ ⟨_, _, rfl, _⟩; rfl
  keep := by rintro _ _ _ _ _ ⟨k, v, rfl, h, h1, h2⟩ hk; exact ⟨k, v, rfl, h.keep hk, h1.keep hk, h2⟩
  weak := by rintro _ _ _ _ _ ⟨k, v, rfl, h, h1, h2⟩ hk; exact ⟨k, v, rfl, h.weak hk, h1.weak hk, h2⟩
  fit := by rintro _ _ _ _ ⟨k, v, rfl, h, h1, h2⟩; exact ⟨k, v, rfl, h.fit, h1.fit, h2⟩
  one := by
    rintro _ _ _ _ ⟨k, v, rfl, h, h1, _⟩ u hu
    have h3 := h.one
    have h4 := h1.one
    simp only [spC, List.mem_cons, List.not_mem_nil, or_false] at hu
    rcases hu with rfl | rfl | rfl | rfl
    · rfl
    · exact h3
    · exact h4
    · rfl
theorem spS : StP Tryd.prog 27 4 := StP.of (by kernel_rfl)
section
variable {S S' : Nat → Prop} {w w' : World} {v : Value}
theorem RdSp.weak {x : Sp} (h : RdSp S w v x) (hs : ∀ k, S k → S' k) : RdSp S' w v x := by
  obtain ⟨a, c, a2, c2, e, h1, h2, h3⟩ := h
  exact ⟨a, c, a2, c2, e, h1.weak hs, h2.weak hs, h3⟩
end
set_option maxRecDepth 4000 in
theorem opens_sp : Opens Tryd.prog 27 Elt.sp := by
  intro H enc w base held fuel cs x h
  obtain ⟨y0, y1, y2, y3, n, _, hl, h0, h1, h2, h3⟩ := trod_struct4 Tryd.underlying27 h
  have hc : cs.length = 4 := hl.trans (by kernel_rfl)
  match cs, hc with
  | [u, v, r, s], _ =>
    obtain ⟨m, hm, _, hw⟩ := DataW.trod_int (by kernel_rfl : Tryd.prog.underlying 3 = some (.int .i64)) (h0 : DataW.trod enc Tryd.prog w base (fun _ => true) held n 3 [u] = some y0)
    obtain ⟨xs, v', hv, hR⟩ := Opens.bytes (P := Tryd.prog) (t := 25) (e := 5) (by kernel_rfl) (by kernel_rfl) (by kernel_rfl) (h1 : DataW.trod enc Tryd.prog w base (fun _ => true) held n 25 [v] = some y1)
    obtain ⟨xs2, v2, hv2, hR2⟩ := Opens.bytes (P := Tryd.prog) (t := 25) (e := 5) (by kernel_rfl) (by kernel_rfl) (by kernel_rfl) (h2 : DataW.trod enc Tryd.prog w base (fun _ => true) held n 25 [r] = some y2)
    obtain ⟨g, hg, _⟩ := DataW.trod_bool (by kernel_rfl : Tryd.prog.underlying 4 = some .bool) (h3 : DataW.trod enc Tryd.prog w base (fun _ => true) held n 4 [s] = some y3)
    cases hm; cases hg; cases hv; cases hv2
    exact ⟨⟨m, xs, xs2, g⟩, v, r, rfl, hR, hR2, w64w hw⟩
def SpEnd (w : World) (x : Sp) (e : Ending) (w' : World) : Prop := ∃ v, e = .returned v ∧ RdSp (fun k => w.heap.size ≤ k ∧ k < w'.heap.size) w' v x ∧ Below w.heap.size w w'
theorem spBox (w : World) (t : TypeId) (us : List Value) : ∃ W, W = w.alloc (.cells us.toArray t) ∧ Below w.heap.size w W ∧ BoxN W w.heap.size t us ∧ W.heap.size = w.heap.size + 1 :=
  ⟨_, rfl, (Below.refl _ _).alloc (Nat.le_refl _) _, BoxN.new _ _ _, by simp only [World.alloc, Array.size_push]⟩
theorem spBoxes2 (w : World) (t t2 : TypeId) (us vs : List Value) : ∃ W, W = (w.alloc (.cells us.toArray t)).alloc (.cells vs.toArray t2) ∧ Below w.heap.size w W ∧ BoxN W w.heap.size t us ∧ BoxN W (w.heap.size + 1) t2 vs ∧ W.heap.size = w.heap.size + 1 + 1 := by
  have h1 : Below w.heap.size w (w.alloc (.cells us.toArray t)) := (Below.refl _ _).alloc (Nat.le_refl _) _
  have hs : (w.alloc (.cells us.toArray t)).heap.size = w.heap.size + 1 := by simp only [World.alloc, Array.size_push]
  have hb := BoxN.new (w.alloc (.cells us.toArray t)) t2 vs
  rw [hs] at hb
  exact ⟨_, rfl, h1.alloc h1.size _, (BoxN.new w t us).below ((Below.refl _ _).alloc (Nat.le_refl _) _) (by rw [hs]; omega), hb, by simp only [World.alloc, Array.size_push]⟩
theorem spBoxes3 (w : World) (t t2 t3 : TypeId) (us vs ys : List Value) : ∃ W, W = ((w.alloc (.cells us.toArray t)).alloc (.cells vs.toArray t2)).alloc (.cells ys.toArray t3) ∧ Below w.heap.size w W ∧ BoxN W w.heap.size t us ∧ BoxN W (w.heap.size + 1) t2 vs ∧ BoxN W (w.heap.size + 1 + 1) t3 ys ∧ W.heap.size = w.heap.size + 1 + 1 + 1 := by
  obtain ⟨V, hV, h1, h2, h3, h4⟩ := spBoxes2 w t t2 us vs
  have hb := BoxN.new V t3 ys
  have hg : Below V.heap.size V (V.alloc (.cells ys.toArray t3)) := (Below.refl _ _).alloc (Nat.le_refl _) _
  rw [h4] at hb
  exact ⟨_, by rw [hV], h1.trans (hg.mono h1.size), h2.below hg h2.lt, h3.below hg h3.lt, hb, by simp only [World.alloc, Array.size_push, h4]⟩
end Go.Proofs.YtpdnehgboafgpaaDoor
namespace Go.Proofs.YtpdnehgboafgpaaDoor
structure Lk where
  owner : Int
  whole : Bool
  span : Sp
  mode : Int
deriving DecidableEq
def clashL (a b : Lk) : Bool := !decide (a.owner = b.owner) && decide (a.span.table = b.span.table) && (a.whole == b.whole) && (if a.whole then !fitM a.mode b.mode else meetsS a.span b.span && (a.mode == 5 || b.mode == 5))
def ownsL (x y : Lk) : Bool := decide (y.owner = x.owner)
def sameL (x y : Lk) : Bool := decide (y.owner = x.owner) && x.whole && y.whole && decide (x.span.table = y.span.table)
def servesL (x y : Lk) : Bool := decide (y.owner = x.owner) && decide (y.span.table = x.span.table) && covM y.mode x.mode && (y.whole || (!x.whole && coversS y.span x.span))
def fine (x : Lk) : Bool := decide (0 ≤ x.owner) && decide (x.owner < 4) && decide (mayS x.span) && (if x.whole then kn x.mode && !x.span.isOpen && decide (x.span.lo.length + x.span.hi.length = 0) else !emptyS x.span && (x.mode == 3 || x.mode == 5))
def blk (x : Lk) (H Q : List Lk) : Bool := H.any (clashL x) || Q.any (clashL x)
def okH (H : List Lk) : Prop := H.Pairwise fun y x => clashL x y = false ∧ sameL x y = false
def okQ (H Q : List Lk) : Prop := ∀ i (h : i < Q.length), blk Q[i] H (Q.take i) = true ∧ ∀ y ∈ Q.take i, y.owner ≠ Q[i].owner
def okLk (H Q : List Lk) : Prop := H.length + Q.length ≤ 40 ∧ (∀ x ∈ H, fine x = true) ∧ (∀ x ∈ Q, fine x = true) ∧ okH H ∧ okQ H Q
instance (H : List Lk) : Decidable (okH H) := by unfold okH; exact inferInstance
instance (H Q : List Lk) : Decidable (okQ H Q) := by unfold okQ; exact inferInstance
instance (H Q : List Lk) : Decidable (okLk H Q) := by unfold okLk; exact inferInstance
def waitsL (Q : List Lk) (o : Int) : Bool := Q.any fun y => decide (y.owner = o)
def heldA (x : Lk) (H : List Lk) : List Lk := match H.findIdx? (sameL x) with
  | some i => H.set i x
  | none => H ++ [x]
def joined (x : Lk) (H : List Lk) : Lk := match H.find? (sameL x) with
  | some y => { x with mode := joinM x.mode y.mode }
  | none => x
def askL (H Q : List Lk) (x : Lk) : List Lk × List Lk × Nat :=
  if fine x = true ∧ okLk H Q ∧ waitsL Q x.owner = false then
    if H.any (servesL x) = true then (H, Q, 0)
    else if 40 ≤ H.length + Q.length then (H, Q, 111)
    else if blk (joined x H) H Q = true then (H, Q ++ [joined x H], 110)
    else (heldA (joined x H) H, Q, 0)
  else (H, Q, 1)
def goD : List Lk → List Lk → List Lk → List Int → List Lk × List Lk × List Int
  | H, Q, [], c => (H, Q, c)
  | H, Q, x :: l, c => if blk x H Q = true then goD H (Q ++ [x]) l c else goD (heldA x H) Q l (c ++ [x.owner])
def lessL (o : Int) (l : List Lk) : List Lk := l.filter fun y => !decide (y.owner = o)
def dropC (H Q : List Lk) (o : Int) : List Lk × List Lk × List Int :=
  if 0 ≤ o ∧ o < 4 ∧ okLk H Q then goD (lessL o H) [] (lessL o Q) [] else (H, Q, [])
theorem clash_comm (a b : Lk) : clashL a b = clashL b a := by
  unfold clashL
  rw [meets_comm b.span a.span, fit_comm b.mode a.mode]
  have h1 : decide (b.owner = a.owner) = decide (a.owner = b.owner) := by rw [decide_eq_decide]; exact ⟨Eq.symm, Eq.symm⟩
  have h2 : decide (b.span.table = a.span.table) = decide (a.span.table = b.span.table) := by rw [decide_eq_decide]; exact ⟨Eq.symm, Eq.symm⟩
  rw [h1, h2, Bool.or_comm (b.mode == 5)]
  cases a.whole <;> cases b.whole <;> simp
theorem same_iff {x y : Lk} : sameL x y = true ↔ y.owner = x.owner ∧ x.whole = true ∧ y.whole = true ∧ x.span.table = y.span.table := by
  unfold sameL; simp [and_assoc]
theorem findIdx_cases (p : Lk → Bool) (H : List Lk) : (H.findIdx? p = none ∧ H.find? p = none ∧ ∀ y ∈ H, p y = false) ∨ ∃ i, ∃ h : i < H.length, H.findIdx? p = some i ∧ H.find? p = some H[i] ∧ p H[i] = true ∧ ∀ y ∈ H.take i, p y = false := by
  cases h : H.findIdx? p with
  | none =>
    have h2 := List.findIdx?_eq_none_iff.1 h
    refine .inl ⟨rfl, List.find?_eq_none.2 fun y hy => by simp [h2 y hy], fun y hy => h2 y hy⟩
  | some i =>
    obtain ⟨h1, h2, h3⟩ := List.findIdx?_eq_some_iff_getElem.1 h
    refine .inr ⟨i, h1, rfl, ?_, h2, ?_⟩
    · rw [List.find?_eq_some_iff_getElem]
      exact ⟨h2, i, h1, rfl, fun j hj => by simpa using h3 j hj⟩
    · intro y hy
      obtain ⟨j, hj, rfl⟩ := List.mem_iff_getElem.1 hy
      rw [List.length_take] at hj
      rw [List.getElem_take]
      simpa using h3 j (by omega)
theorem heldA_no {x : Lk} {H : List Lk} (h : ∀ y ∈ H, sameL x y = false) : heldA x H = H ++ [x] := by
  rcases findIdx_cases (sameL x) H with ⟨h1, _⟩ | ⟨i, hi, _, _, h2, _⟩
  · unfold heldA; rw [h1]
  · rw [h _ (List.getElem_mem hi)] at h2; cases h2
theorem first_uniq {p : Lk → Bool} {H : List Lk} {i j : Nat} (hi : i < H.length) (hj : j < H.length) (h1 : p H[i] = true) (h2 : ∀ y ∈ H.take i, p y = false) (h3 : p H[j] = true) (h4 : ∀ y ∈ H.take j, p y = false) : i = j := by
  rcases Nat.lt_trichotomy i j with h | h | h
  · have := h4 H[i] (List.mem_take_iff_getElem.2 ⟨i, by omega, rfl⟩)
    rw [h1] at this; cases this
  · exact h
  · have := h2 H[j] (List.mem_take_iff_getElem.2 ⟨j, by omega, rfl⟩)
    rw [h3] at this; cases this
theorem heldA_at {x : Lk} {H : List Lk} {i : Nat} (hi : i < H.length) (h1 : sameL x H[i] = true) (h2 : ∀ y ∈ H.take i, sameL x y = false) : heldA x H = H.set i x := by
  rcases findIdx_cases (sameL x) H with ⟨_, _, h3⟩ | ⟨j, hj, h3, _, h4, h5⟩
  · rw [h3 _ (List.getElem_mem hi)] at h1; cases h1
  · obtain rfl := first_uniq hi hj h1 h2 h4 h5
    unfold heldA; rw [h3]
theorem joined_no {x : Lk} {H : List Lk} (h : ∀ y ∈ H, sameL x y = false) : joined x H = x := by
  rcases findIdx_cases (sameL x) H with ⟨_, h1, _⟩ | ⟨i, hi, _, _, h2, _⟩
  · unfold joined; rw [h1]
  · rw [h _ (List.getElem_mem hi)] at h2; cases h2
theorem joined_at {x : Lk} {H : List Lk} {i : Nat} (hi : i < H.length) (h1 : sameL x H[i] = true) (h2 : ∀ y ∈ H.take i, sameL x y = false) : joined x H = { x with mode := joinM x.mode H[i].mode } := by
  rcases findIdx_cases (sameL x) H with ⟨_, _, h3⟩ | ⟨j, hj, _, h3, h4, h5⟩
  · rw [h3 _ (List.getElem_mem hi)] at h1; cases h1
  · obtain rfl := first_uniq hi hj h1 h2 h4 h5
    unfold joined; rw [h3]
theorem heldA_len (x : Lk) (H : List Lk) : (heldA x H).length ≤ H.length + 1 := by
  unfold heldA
  split <;> simp
theorem heldA_mem {x y : Lk} {H : List Lk} (h : y ∈ heldA x H) : y = x ∨ y ∈ H := by
  unfold heldA at h
  split at h
  · rcases List.mem_or_eq_of_mem_set h with h | h
    · exact .inr h
    · exact .inl h
  · rcases List.mem_append.1 h with h | h
    · exact .inr h
    · exact .inl (by simpa using h)
theorem blk_iff {x : Lk} {H Q : List Lk} : blk x H Q = true ↔ (∃ y ∈ H, clashL x y = true) ∨ ∃ y ∈ Q, clashL x y = true := by
  unfold blk; simp
theorem blk_no {x : Lk} {H Q : List Lk} : blk x H Q = false ↔ (∀ y ∈ H, clashL x y = false) ∧ ∀ y ∈ Q, clashL x y = false := by
  unfold blk; simp
def nodup (l : List Lk) : Prop := l.Pairwise fun y x => y.owner ≠ x.owner
theorem goD_all (P : Lk → Prop) : ∀ (l H Q : List Lk) (c : List Int), (∀ y ∈ H, P y) → (∀ y ∈ Q, P y) → (∀ y ∈ l, P y) → (∀ y ∈ (goD H Q l c).1, P y) ∧ ∀ y ∈ (goD H Q l c).2.1, P y
  | [], H, Q, c, h1, h2, _ => ⟨h1, h2⟩
  | x :: l, H, Q, c, h1, h2, h3 => by
    have hx := h3 x List.mem_cons_self
    have hl : ∀ y ∈ l, P y := fun y hy => h3 y (List.mem_cons_of_mem _ hy)
    unfold goD
    by_cases hb : blk x H Q = true
    · rw [if_pos hb]
      refine goD_all P l H (Q ++ [x]) c h1 (fun y hy => ?_) hl
      rcases List.mem_append.1 hy with h | h
      · exact h2 y h
      · rw [show y = x by simpa using h]; exact hx
    · rw [if_neg hb]
      refine goD_all P l (heldA x H) Q _ (fun y hy => ?_) h2 hl
      rcases heldA_mem hy with rfl | hy
      · exact hx
      · exact h1 y hy
theorem less_mem {o : Int} {l : List Lk} {y : Lk} : y ∈ lessL o l ↔ y ∈ l ∧ y.owner ≠ o := by
  unfold lessL; simp
theorem drop_none {H Q : List Lk} (h : okLk H Q) {o : Int} (h0 : 0 ≤ o) (h4 : o < 4) (P : Lk → Prop) (hH : ∀ y ∈ H, P y) (hQ : ∀ y ∈ Q, P y) :
    (∀ y ∈ (dropC H Q o).1, P y ∧ y.owner ≠ o) ∧ ∀ y ∈ (dropC H Q o).2.1, P y ∧ y.owner ≠ o := by
  unfold dropC
  rw [if_pos ⟨h0, h4, h⟩]
  exact goD_all (fun y => P y ∧ y.owner ≠ o) _ _ _ _ (fun y hy => ⟨hH y (less_mem.1 hy).1, (less_mem.1 hy).2⟩) (by simp) fun y hy => ⟨hQ y (less_mem.1 hy).1, (less_mem.1 hy).2⟩
theorem waits_no {Q : List Lk} {o : Int} : waitsL Q o = false ↔ ∀ y ∈ Q, y.owner ≠ o := by
  unfold waitsL; simp
theorem fine_iff {x : Lk} : fine x = true ↔ (0 ≤ x.owner ∧ x.owner < 4) ∧ mayS x.span ∧ (x.whole = true ∧ kn x.mode = true ∧ x.span.isOpen = false ∧ x.span.lo.length + x.span.hi.length = 0 ∨ x.whole = false ∧ emptyS x.span = false ∧ (x.mode = 3 ∨ x.mode = 5)) := by
  unfold fine
  cases x.whole <;> simp [and_assoc]
theorem fine_kn {x : Lk} (h : fine x = true) : kn x.mode = true := by
  rcases (fine_iff.1 h).2.2 with ⟨_, h, _⟩ | ⟨_, _, h | h⟩
  · exact h
  · rw [h]; rfl
  · rw [h]; rfl
end Go.Proofs.YtpdnehgboafgpaaDoor
namespace Go.Proofs.YtpdnehgboafgpaaDoor
open Go.ChangeShapes Go.WideShapes Go.ChangeAt Go.RowKit Go.Deep Go.Joins
def lkC (x : Lk) (k v : Value) : List Value := [.int .i64 x.owner, .bool x.whole, .int .i64 x.span.table, k, v, .bool x.span.isOpen, .int .i64 x.mode]
def Lk64 (x : Lk) : Prop := W64 x.owner ∧ W64 x.span.table ∧ W64 x.mode
def Elt.lk : Elt Lk where
  size := 7
  pos := by omega
  R S w x vs := ∃ k v, vs = lkC x k v ∧ RdS S w k x.span.lo ∧ RdS S w v x.span.hi ∧ Lk64 x
  len := by rintro _ _ _ _ ⟨_, _, rfl, _⟩; rfl
  keep := by rintro _ _ _ _ _ ⟨k, v, rfl, h, h1, h2⟩ hk; exact ⟨k, v, rfl, h.keep hk, h1.keep hk, h2⟩
  weak := by rintro _ _ _ _ _ ⟨k, v, rfl, h, h1, h2⟩ hk; exact ⟨k, v, rfl, h.weak hk, h1.weak hk, h2⟩
  fit := by rintro _ _ _ _ ⟨k, v, rfl, h, h1, h2⟩; exact ⟨k, v, rfl, h.fit, h1.fit, h2⟩
  one := by
    rintro _ _ _ _ ⟨k, v, rfl, h, h1, _⟩ u hu
    have h3 := h.one
    have h4 := h1.one
    simp only [lkC, List.mem_cons, List.not_mem_nil, or_false] at hu
    rcases hu with rfl | rfl | rfl | rfl | rfl | rfl | rfl
    · rfl
    · rfl
    · rfl
    · exact h3
    · exact h4
    · rfl
    · rfl
theorem lkP : LoP Tryd.prog 22 29 7 := ⟨⟨by kernel_rfl, by kernel_rfl⟩, .agg #[.int .i64 0, .bool false, .int .i64 0, .slice none 0 0, .slice none 0 0, .bool false, .int .i64 0], 88, by kernel_rfl, rfl, by omega⟩
def RdLk (S : Nat → Prop) (w : World) (v : Value) (x : Lk) : Prop := ∃ a c a2 c2, v = .agg #[.int .i64 x.owner, .bool x.whole, .int .i64 x.span.table, .slice a x.span.lo.length c, .slice a2 x.span.hi.length c2, .bool x.span.isOpen, .int .i64 x.mode] ∧ RdS S w (.slice a x.span.lo.length c) x.span.lo ∧ RdS S w (.slice a2 x.span.hi.length c2) x.span.hi ∧ Lk64 x
def RdLs (S : Nat → Prop) (w : World) (v : Value) (H Q : List Lk) : Prop := ∃ a c a2 c2, v = .agg #[.slice a H.length c, .slice a2 Q.length c2] ∧ RdL Elt.lk S w (.slice a H.length c) H ∧ RdL Elt.lk S w (.slice a2 Q.length c2) Q
section
variable {S S' : Nat → Prop} {w w' : World} {v : Value}
theorem RdL.lk {a : Option Addr} {n c : Nat} {l : List Lk} (h : RdL Elt.lk S w (.slice a n c) l) (r : Nat) (hr : r < l.length) :
    ∃ b off A C A2 C2, a = some ⟨b, off, none⟩ ∧ S b ∧ w.cell? ⟨b, off + r * 7, none⟩ = some (.int .i64 l[r].owner) ∧ w.cell? ⟨b, off + r * 7 + 1, none⟩ = some (.bool l[r].whole) ∧ w.cell? ⟨b, off + r * 7 + 2, none⟩ = some (.int .i64 l[r].span.table) ∧ w.cell? ⟨b, off + r * 7 + 3, none⟩ = some (.slice A l[r].span.lo.length C) ∧
      w.cell? ⟨b, off + r * 7 + 4, none⟩ = some (.slice A2 l[r].span.hi.length C2) ∧ w.cell? ⟨b, off + r * 7 + 5, none⟩ = some (.bool l[r].span.isOpen) ∧ w.cell? ⟨b, off + r * 7 + 6, none⟩ = some (.int .i64 l[r].mode) ∧
      RdS S w (.slice A l[r].span.lo.length C) l[r].span.lo ∧ RdS S w (.slice A2 l[r].span.hi.length C2) l[r].span.hi ∧ Lk64 l[r] := by
  obtain ⟨b, off, vs, rfl, hb, ⟨k, u, rfl, hk, hu, hi⟩, hc⟩ := h.at r hr
  obtain ⟨A, C, rfl, _, _⟩ := hk.shape
  obtain ⟨A2, C2, rfl, _, _⟩ := hu.shape
  exact ⟨b, off, A, C, A2, C2, rfl, hb, hc 0 _ rfl, hc 1 _ rfl, hc 2 _ rfl, hc 3 _ rfl, hc 4 _ rfl, hc 5 _ rfl, hc 6 _ rfl, hk, hu, hi⟩
theorem RdLk.weak {x : Lk} (h : RdLk S w v x) (hs : ∀ k, S k → S' k) : RdLk S' w v x := by
  obtain ⟨a, c, a2, c2, e, h1, h2, h3⟩ := h
  exact ⟨a, c, a2, c2, e, h1.weak hs, h2.weak hs, h3⟩
theorem RdLk.keep {x : Lk} (h : RdLk S w v x) (hk : ∀ k, S k → w'.heap[k]? = w.heap[k]?) : RdLk S w' v x := by
  obtain ⟨a, c, a2, c2, e, h1, h2, h3⟩ := h
  exact ⟨a, c, a2, c2, e, h1.keep hk, h2.keep hk, h3⟩
theorem RdLk.fit {x : Lk} (h : RdLk S w v x) : RdLk (fun k => S k ∧ k < w.heap.size) w v x := by
  obtain ⟨a, c, a2, c2, e, h1, h2, h3⟩ := h
  exact ⟨a, c, a2, c2, e, h1.fit, h2.fit, h3⟩
theorem RdLk.below {x : Lk} (h : RdLk S w v x) (hb : Below w.heap.size w w') : RdLk S w' v x := by
  obtain ⟨a, c, a2, c2, e, h1, h2, h3⟩ := h
  exact ⟨a, c, a2, c2, e, h1.below hb, h2.below hb, h3⟩
theorem RdLs.below {H Q : List Lk} (h : RdLs S w v H Q) (hb : Below w.heap.size w w') : RdLs S w' v H Q := by
  obtain ⟨a, c, a2, c2, e, h1, h2⟩ := h
  exact ⟨a, c, a2, c2, e, h1.below hb, h2.below hb⟩
theorem RdLs.weak {H Q : List Lk} (h : RdLs S w v H Q) (hs : ∀ k, S k → S' k) : RdLs S' w v H Q := by
  obtain ⟨a, c, a2, c2, e, h1, h2⟩ := h
  exact ⟨a, c, a2, c2, e, h1.weak hs, h2.weak hs⟩
theorem RdLs.keep {H Q : List Lk} (h : RdLs S w v H Q) (hk : ∀ k, S k → w'.heap[k]? = w.heap[k]?) : RdLs S w' v H Q := by
  obtain ⟨a, c, a2, c2, e, h1, h2⟩ := h
  exact ⟨a, c, a2, c2, e, h1.keep hk, h2.keep hk⟩
theorem RdLk.R {x : Lk} {k m : Option Addr} {l n : Nat} (h : RdLk S w (.agg #[.int .i64 x.owner, .bool x.whole, .int .i64 x.span.table, .slice k x.span.lo.length l, .slice m x.span.hi.length n, .bool x.span.isOpen, .int .i64 x.mode]) x) :
    Elt.lk.R S w x [.int .i64 x.owner, .bool x.whole, .int .i64 x.span.table, .slice k x.span.lo.length l, .slice m x.span.hi.length n, .bool x.span.isOpen, .int .i64 x.mode] := by
  obtain ⟨_, _, _, _, e, h1, h2, h3⟩ := h
  injection e with e
  injection e with e
  injection e with _ e
  injection e with _ e
  injection e with _ e
  injection e with f1 e
  injection e with f2 _
  rw [← f1] at h1
  rw [← f2] at h2
  exact ⟨_, _, rfl, h1, h2, h3⟩
theorem RdLk.sp {x : Lk} {k m : Option Addr} {l n : Nat} (h : RdLk S w (.agg #[.int .i64 x.owner, .bool x.whole, .int .i64 x.span.table, .slice k x.span.lo.length l, .slice m x.span.hi.length n, .bool x.span.isOpen, .int .i64 x.mode]) x) :
    RdSp S w (.agg #[.int .i64 x.span.table, .slice k x.span.lo.length l, .slice m x.span.hi.length n, .bool x.span.isOpen]) x.span := by
  obtain ⟨_, _, e, h1, h2, h3⟩ := h.R
  injection e with _ e
  injection e with _ e
  injection e with _ e
  injection e with f1 e
  injection e with f2 _
  rw [← f1] at h1
  rw [← f2] at h2
  exact ⟨_, _, _, _, rfl, h1, h2, h3.2.1⟩
end
set_option maxRecDepth 4000 in
theorem opens_lk : Opens Tryd.prog 29 Elt.lk := by
  intro H enc w base held fuel cs x h
  obtain ⟨y0, y1, y2, y3, n, _, hl, h0, h1, h2, h3⟩ := trod_struct4 Tryd.underlying29 h
  have hc : cs.length = 7 := hl.trans (by kernel_rfl)
  match cs, hc with
  | [u, v, r1, r2, r3, r4, s], _ =>
    obtain ⟨m, hm, _, hw⟩ := DataW.trod_int (by kernel_rfl : Tryd.prog.underlying 3 = some (.int .i64)) (h0 : DataW.trod enc Tryd.prog w base (fun _ => true) held n 3 [u] = some y0)
    obtain ⟨g, hg, _⟩ := DataW.trod_bool (by kernel_rfl : Tryd.prog.underlying 4 = some .bool) (h1 : DataW.trod enc Tryd.prog w base (fun _ => true) held n 4 [v] = some y1)
    obtain ⟨sp, k1, k2, hsp, hR, hR2, hwt⟩ := opens_sp (h2 : DataW.trod enc Tryd.prog w base (fun _ => true) held n 27 [r1, r2, r3, r4] = some y2)
    obtain ⟨m2, hm2, _, hw2⟩ := DataW.trod_int (by kernel_rfl : Tryd.prog.underlying 3 = some (.int .i64)) (h3 : DataW.trod enc Tryd.prog w base (fun _ => true) held n 3 [s] = some y3)
    cases hm; cases hg; cases hm2; cases hsp
    exact ⟨⟨m, g, sp, m2⟩, r2, r3, rfl, hR, hR2, w64w hw, hwt, w64w hw2⟩
theorem opens_lks : Opens Tryd.prog 22 (Elt.list Elt.lk) := Opens.list (by kernel_rfl) (by kernel_rfl) opens_lk
set_option maxRecDepth 4000 in
theorem open_lk {H : Type} {enc : TypeId × Value → H} {w : World} {base : Nat} {held : Bool} {fuel : Nat} {cs : Array Value} {x : DataW H × List MemPlace} (h : DataW.trod enc Tryd.prog w base (fun _ => true) held fuel 29 (Value.agg cs).cells.toList = some x) : ∃ d, RdLk (· < w.heap.size) w (.agg cs) d := by
  obtain ⟨d, k, v, e, h1, h2, h3⟩ := opens_lk h
  obtain ⟨a, c, rfl, _⟩ := h1.shape
  obtain ⟨a2, c2, rfl, _⟩ := h2.shape
  have : cs = #[.int .i64 d.owner, .bool d.whole, .int .i64 d.span.table, .slice a d.span.lo.length c, .slice a2 d.span.hi.length c2, .bool d.span.isOpen, .int .i64 d.mode] := Array.ext' (by simpa [Value.cells, lkC] using e)
  exact ⟨d, a, c, a2, c2, by rw [this], h1, h2, h3⟩
set_option maxRecDepth 4000 in
theorem open_ls {H : Type} {enc : TypeId × Value → H} {w : World} {base : Nat} {held : Bool} {fuel : Nat} {cs : Array Value} {x : DataW H × List MemPlace} (h : DataW.trod enc Tryd.prog w base (fun _ => true) held fuel 24 (Value.agg cs).cells.toList = some x) : ∃ d : List Lk × List Lk, RdLs (· < w.heap.size) w (.agg cs) d.1 d.2 := by
  have e0 : (Value.agg cs).cells.toList = cs.toList := by simp [Value.cells]
  rw [e0] at h
  obtain ⟨y0, y1, n, _, hl, h0, h1⟩ := trod_struct2 Tryd.underlying24 h
  have hc : cs.toList.length = 2 := hl.trans (by kernel_rfl)
  obtain ⟨l⟩ := cs
  match l, hc with
  | [u, v], _ =>
    obtain ⟨ws, k, hk, hR⟩ := opens_lks (h0 : DataW.trod enc Tryd.prog w base (fun _ => true) held n 22 [u] = some y0)
    obtain ⟨ms, k2, hk2, hR2⟩ := opens_lks (h1 : DataW.trod enc Tryd.prog w base (fun _ => true) held n 22 [v] = some y1)
    cases hk; cases hk2
    obtain ⟨a, c, rfl, _⟩ := hR.shape
    obtain ⟨a2, c2, rfl, _⟩ := hR2.shape
    exact ⟨(ws, ms), a, c, a2, c2, rfl, hR, hR2⟩
def LkEnd (w : World) (x : Lk) (e : Ending) (w' : World) : Prop := ∃ v, e = .returned v ∧ RdLk (fun k => w.heap.size ≤ k ∧ k < w'.heap.size) w' v x ∧ Below w.heap.size w w'
end Go.Proofs.YtpdnehgboafgpaaDoor
namespace Go.Proofs.YtpdnehgboafgpaaDoor
def RdLs2 (S : Nat → Prop) (w : World) (v : Value) (d : List Lk × List Lk) : Prop := RdLs S w v d.1 d.2
end Go.Proofs.YtpdnehgboafgpaaDoor
