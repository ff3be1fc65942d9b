/-
  TEXTS OF ONE PROOF, merged: Ltb, DltM, Dlt, DltD, DltU, Cmp, SpnM, Spn, SpA.
-/
import Derived.Deep.Cut
import Derived.Lib.Bytealg
import Derived.Lib.BytesEntry
import Derived.Lib.SmallJoins
import Derived.Shelf.Abstract
import Derived.Test.YtcopdnigfnmnkaaMk2
namespace Go.Proofs.Ytcopdnigfnmnkaa
def ltB (a b : List UInt8) : Bool := Op.bytesLess a b
theorem ltB_irrefl : ∀ a, ltB a a = false
  | [] => rfl
  | x :: a => by
    have h := ltB_irrefl a
    unfold ltB at h ⊢
    simp [Op.bytesLess, h]
theorem ltB_trans : ∀ {a b c}, ltB a b = true → ltB b c = true → ltB a c = true
  | _, [], _, h, _ => by cases ‹List UInt8› <;> simp [ltB, Op.bytesLess] at h
  | _, _ :: _, [], _, h => by simp [ltB, Op.bytesLess] at h
  | [], _ :: _, _ :: _, _, _ => rfl
  | x :: a, y :: b, z :: c, h, k => by
    simp only [ltB, Op.bytesLess, Bool.or_eq_true, decide_eq_true_eq, Bool.and_eq_true, beq_iff_eq] at h k ⊢
    rcases h with h | ⟨rfl, h⟩
    · rcases k with k | ⟨rfl, k⟩
      · exact .inl (UInt8.lt_trans h k)
      · exact .inl h
    · rcases k with k | ⟨rfl, k⟩
      · exact .inl k
      · exact .inr ⟨rfl, ltB_trans (a := a) (b := b) (c := c) h k⟩
theorem ltB_total : ∀ {a b}, a ≠ b → ltB a b = false → ltB b a = true
  | [], [], h, _ => absurd rfl h
  | [], _ :: _, _, h => by simp [ltB, Op.bytesLess] at h
  | _ :: _, [], _, _ => rfl
  | x :: a, y :: b, hne, h => by
    simp only [ltB, Op.bytesLess, Bool.or_eq_false_iff, Bool.and_eq_false_iff, decide_eq_false_iff_not, beq_eq_false_iff_ne, Bool.or_eq_true, decide_eq_true_eq, Bool.and_eq_true, beq_iff_eq] at h ⊢
    obtain ⟨h1, h2⟩ := h
    by_cases hxy : x = y
    · subst hxy
      rcases h2 with h2 | h2
      · exact absurd rfl h2
      · exact .inr ⟨rfl, ltB_total (a := a) (b := b) (fun e => hne (by rw [e])) h2⟩
    · refine .inl ?_
      rcases UInt8.lt_or_lt_of_ne (a := x) (b := y) hxy with h3 | h3
      · exact absurd h3 h1
      · exact h3
theorem ltB_asymm {a b : List UInt8} (h : ltB a b = true) : ltB b a = false := by
  cases hb : ltB b a with
  | false => rfl
  | true => rw [← ltB_irrefl a]; exact (ltB_trans h hb).symm
end Go.Proofs.Ytcopdnigfnmnkaa
namespace Go.Proofs.Ytcopdnigfnmnkaa
section
variable {K α : Type} [DecidableEq K] (lt : K → K → Bool) (key : α → K)
def SrtE (l : List α) : Prop := l.Pairwise fun a b => lt (key a) (key b) = true
variable {lt key}
end
structure Wr where
  table : Int
  key : List UInt8
  gone : Bool
  val : List UInt8
deriving DecidableEq
structure Pq where
  key : List UInt8
  val : List UInt8
deriving DecidableEq
structure Dl where
  writes : List Wr
  marks : List Int
deriving DecidableEq
structure Sp where
  table : Int
  lo : List UInt8
  hi : List UInt8
  isOpen : Bool
deriving DecidableEq
def mayW (w : Wr) : Prop := 0 ≤ w.table ∧ w.table ≤ 3 ∧ w.key.length ≤ 16 ∧ w.val.length ≤ 32 ∧ (w.gone = true → w.val = [])
instance (w : Wr) : Decidable (mayW w) := by unfold mayW; exact inferInstance
def okM (n : Int) : Int → List Int → Prop
  | _, [] => True
  | l, m :: ms => l ≤ m ∧ m ≤ n ∧ okM n m ms
instance decM (n : Int) : ∀ l ms, Decidable (okM n l ms)
  | _, [] => isTrue trivial
  | l, m :: ms => by unfold okM; have := decM n m ms; exact inferInstance
def okD (d : Dl) : Prop := d.writes.length ≤ 20 ∧ d.marks.length ≤ 4 ∧ (∀ w ∈ d.writes, mayW w) ∧ okM d.writes.length 0 d.marks
instance (d : Dl) : Decidable (okD d) := by unfold okD; exact inferInstance
def inS (x : Sp) (k : List UInt8) : Bool := !ltB k x.lo && (x.isOpen || ltB k x.hi)
abbrev SrtQ (l : List Pq) : Prop := SrtE ltB Pq.key l
instance (l : List Pq) : Decidable (SrtQ l) := by unfold SrtQ SrtE; exact inferInstance
end Go.Proofs.Ytcopdnigfnmnkaa
namespace Go.Proofs.Ytcopdnigfnmnkaa
open Go.ChangeShapes Go.WideShapes Go.ChangeAt Go.RowKit Go.Deep Go.Joins
def W64 (s : Int) : Prop := -9223372036854775808 ≤ s ∧ s ≤ 9223372036854775807
theorem w64w {n : Int} (h : (Lit.int .i64 n).wf = true) : W64 n := by
  simp [Lit.wf, IntKind.min, IntKind.max, IntKind.signed, IntKind.bits] at h
  exact ⟨by omega, by omega⟩
section
variable {S S' : Nat → Prop} {w w' : World} {v : Value}
def RdSp (S : Nat → Prop) (w : World) (v : Value) (x : Sp) : Prop := ∃ a c a2 c2, v = .agg #[.int .i64 x.table, .slice a x.lo.length c, .slice a2 x.hi.length c2, .bool x.isOpen] ∧ RdS S w (.slice a x.lo.length c) x.lo ∧ RdS S w (.slice a2 x.hi.length c2) x.hi ∧ W64 x.table
theorem RdSp.below {x : Sp} (h : RdSp S w v x) (hb : Below w.heap.size w w') : RdSp S w' v x := by
  obtain ⟨a, c, a2, c2, e, h1, h2, h3⟩ := h
  exact ⟨a, c, a2, c2, e, h1.below hb, h2.below hb, h3⟩
end
set_option maxRecDepth 4000 in
theorem open_sp {H : Type} {enc : TypeId × Value → H} {w : World} {base : Nat} {held : Bool} {fuel : Nat} {cs : Array Value} {x : DataW H × List MemPlace} (h : DataW.trod enc Try.prog w base (fun _ => true) held fuel 24 (Value.agg cs).cells.toList = some x) : ∃ d, RdSp (· < w.heap.size) w (.agg cs) d := by
  have e0 : (Value.agg cs).cells.toList = cs.toList := by simp [Value.cells]
  rw [e0] at h
  obtain ⟨y0, y1, y2, y3, n, _, hl, h0, h1, h2, h3⟩ := trod_struct4 Try.underlying24 h
  have hc : cs.toList.length = 4 := hl.trans (by kernel_rfl)
  obtain ⟨l⟩ := cs
  match l, hc with
  | [u, v, r, s], _ =>
    obtain ⟨m, hm, _, hw⟩ := DataW.trod_int (by kernel_rfl : Try.prog.underlying 3 = some (.int .i64)) (h0 : DataW.trod enc Try.prog w base (fun _ => true) held n 3 [u] = some y0)
    obtain ⟨xs, v', hv, hR⟩ := Opens.bytes (P := Try.prog) (t := 22) (e := 5) (by kernel_rfl) (by kernel_rfl) (by kernel_rfl) (h1 : DataW.trod enc Try.prog w base (fun _ => true) held n 22 [v] = some y1)
    obtain ⟨xs2, v2, hv2, hR2⟩ := Opens.bytes (P := Try.prog) (t := 22) (e := 5) (by kernel_rfl) (by kernel_rfl) (by kernel_rfl) (h2 : DataW.trod enc Try.prog w base (fun _ => true) held n 22 [r] = some y2)
    obtain ⟨g, hg, _⟩ := DataW.trod_bool (by kernel_rfl : Try.prog.underlying 4 = some .bool) (h3 : DataW.trod enc Try.prog w base (fun _ => true) held n 4 [s] = some y3)
    cases hm; cases hg; cases hv; cases hv2
    obtain ⟨a, c, rfl, _⟩ := hR.shape
    obtain ⟨a2, c2, rfl, _⟩ := hR2.shape
    exact ⟨⟨m, xs, xs2, g⟩, a, c, a2, c2, rfl, hR, hR2, w64w hw⟩
end Go.Proofs.Ytcopdnigfnmnkaa
namespace Go.Proofs.Ytcopdnigfnmnkaa
open Go.RowKit Go.Shelf
theorem boxes2 (w : World) (t t2 : TypeId) (us vs : List Value) : ∃ W, W = (w.alloc (.cells us.toArray t)).alloc (.cells vs.toArray t2) ∧ Below w.heap.size w W ∧ BoxN W w.heap.size t us ∧ BoxN W (w.heap.size + 1) t2 vs ∧ W.heap.size = w.heap.size + 1 + 1 := by
  have h1 : Below w.heap.size w (w.alloc (.cells us.toArray t)) := (Below.refl _ _).alloc (Nat.le_refl _) _
  have s1 : (w.alloc (.cells us.toArray t)).heap.size = w.heap.size + 1 := World.size_alloc _ _
  have b1 := BoxN.new w t us
  generalize w.alloc (.cells us.toArray t) = w1 at *
  have h2 : Below w1.heap.size w1 (w1.alloc (.cells vs.toArray t2)) := (Below.refl _ _).alloc (Nat.le_refl _) _
  have s2 : (w1.alloc (.cells vs.toArray t2)).heap.size = w1.heap.size + 1 := World.size_alloc _ _
  have b2 := BoxN.new w1 t2 vs
  rw [s1] at b2 s2
  exact ⟨_, rfl, h1.trans (h2.mono h1.size), b1.below h2 b1.lt, b2, s2⟩
def NewS (W V : World) (k : Value) (xs : List UInt8) : Prop := ∃ a c, k = .slice a xs.length c ∧ RdS (fun g => W.heap.size ≤ g ∧ g < V.heap.size) V (.slice a xs.length c) xs
theorem NewS.below {W V V' : World} {k : Value} {xs : List UInt8} (h : NewS W V k xs) (hb : Below V.heap.size V V') : NewS W V' k xs := by
  obtain ⟨a, c, e, hr⟩ := h
  exact ⟨a, c, e, (hr.below hb).weak fun g hg => ⟨hg.1, Nat.lt_of_lt_of_le hg.2 hb.size⟩⟩
theorem NewS.grown {W V V' : World} {k : Value} {xs : List UInt8} {b : Nat} (h : NewS W V k xs) (hg : V.grownBy V' (some b)) (hb : b < W.heap.size) : NewS W V' k xs := by
  obtain ⟨a, c, e, hr⟩ := h
  exact ⟨a, c, e, (hr.keep fun k hk => hg.block k hk.2 fun e => by injection e with e; have := hk.1; omega).weak fun g h => ⟨h.1, Nat.lt_of_lt_of_le h.2 hg.size⟩⟩
theorem NewS.of {W V V' : World} {E : TypeId} {a : Option Addr} {k c : Nat} {xs : List UInt8} (h : Below W.heap.size W V) (hf : Fresh E V V' (.slice a k c) xs) : NewS W V' (.slice a k c) xs := by
  obtain rfl : k = xs.length := hf.len
  exact ⟨a, c, rfl, hf.2.rdS.weak fun g hg => ⟨Nat.le_trans h.size hg.1, hg.2⟩⟩
end Go.Proofs.Ytcopdnigfnmnkaa
namespace Go.Proofs.Ytcopdnigfnmnkaa
open Go.RowKit Go.Shelf
section
variable {α : Type} {P : Program} {T E S t : TypeId} {ops : Array Oper} {rest : List Oper} {o : Oper} {a : Act} {Q : Exit → Act → World → Prop} {w : World} {K : Act → World → Prop}
theorem wp_buildZ (hP : ByP P T E S) (ho : o.op = .buildSlice T 0 #[]) (h : ∀ w', Fresh E w w' (.slice (some ⟨w.heap.size, 0, none⟩) 0 0) [] → K (a.put o.dst (.slice (some ⟨w.heap.size, 0, none⟩) 0 0)) w') : o.wp P a w K Q := by
  have hrun := run_build hP w [] (by simp)
  have hf := fresh_build E w [] (by simp)
  simp only [bv, List.map_nil, List.zipIdx_nil, List.length_nil] at hrun hf
  unfold Oper.wp execOp
  simp only [ho, Sem.run_bind, Sem.run_pure, Result.andThen_ok, List.map_toArray, List.map_nil, hrun]
  exact h _ hf
theorem wp_build4 (hP : StP P t 4) {x y z s : Operand} {u v r q : Value} (ho : o.op = .build t #[(0, x), (1, y), (2, z), (3, s)]) (hx : a.eval x = u) (hy : a.eval y = v) (hz : a.eval z = r) (hs : a.eval s = q) (hu1 : u.cells = #[u]) (hv1 : v.cells = #[v]) (hr1 : r.cells = #[r]) (hq1 : q.cells = #[q]) (h : K (a.put o.dst (.agg #[u, v, r, q])) w) : o.wp P a w K Q := by
  obtain ⟨fs, hu, hfs, hf⟩ := hP.hu
  obtain ⟨f0, g0, o0, s0⟩ := hf 0 (by omega)
  obtain ⟨f1, g1, o1, s1⟩ := hf 1 (by omega)
  obtain ⟨f2, g2, o2, s2⟩ := hf 2 (by omega)
  obtain ⟨f3, g3, o3, s3⟩ := hf 3 (by omega)
  obtain ⟨zs, hzs, hz0⟩ := hP.zero
  obtain ⟨l⟩ := fs
  obtain ⟨zl⟩ := zs
  match l, hfs with
  | [k0, k1, k2, k3], _ =>
    match zl, hzs with
    | [z0, z1, z2, z3], _ =>
      simp at g0 g1 g2 g3
      subst g0; subst g1; subst g2; subst g3
      refine wp_run' ?_ h
      simp only [execOp, ho, List.map_toArray, List.map_cons, List.map_nil, hx, hy, hz, hs]
      simp [Instr.build, run_underlying hu, hz0, run_sizeOf' s0, run_sizeOf' s1, run_sizeOf' s2, run_sizeOf' s3, Instr.fill, hu1, hv1, hr1, hq1, o0, o1, o2, o3, show (Value.agg #[z0, z1, z2, z3]).cells = #[z0, z1, z2, z3] from rfl]
end
end Go.Proofs.Ytcopdnigfnmnkaa
namespace Go.Proofs.Ytcopdnigfnmnkaa
open Go.RowKit
theorem u8_tri (x y : UInt8) : x < y ∨ x = y ∨ y < x := by
  rcases Nat.lt_trichotomy x.toNat y.toNat with h | h | h
  · exact .inl (UInt8.lt_iff_toNat_lt.2 h)
  · exact .inr (.inl (UInt8.toNat_inj.1 h))
  · exact .inr (.inr (UInt8.lt_iff_toNat_lt.2 h))
theorem cmp_lt : ∀ (a b : List UInt8), decide (Lib.compareBytes a b < 0) = ltB a b
  | [], [] => rfl
  | [], _ :: _ => rfl
  | _ :: _, [] => rfl
  | x :: a, y :: b => by
    have ih := cmp_lt a b
    unfold Lib.compareBytes ltB Op.bytesLess
    unfold ltB at ih
    rcases u8_tri x y with h | h | h
    · simp [h]
    · subst h
      simp [UInt8.lt_irrefl, ih]
    · have h1 : ¬ x < y := UInt8.lt_asymm h
      have h2 : x ≠ y := fun e => by subst e; exact UInt8.lt_irrefl _ h
      simp [h, h1, h2]
theorem cmp_eq : ∀ (a b : List UInt8), (Lib.compareBytes a b == 0) = decide (a = b)
  | [], [] => rfl
  | [], _ :: _ => rfl
  | _ :: _, [] => rfl
  | x :: a, y :: b => by
    have ih := cmp_eq a b
    unfold Lib.compareBytes
    rcases u8_tri x y with h | h | h
    · have h2 : x ≠ y := fun e => by subst e; exact UInt8.lt_irrefl _ h
      simp [h, h2]
    · subst h
      simp [UInt8.lt_irrefl, ih]
    · have h1 : ¬ x < y := UInt8.lt_asymm h
      have h2 : x ≠ y := fun e => by subst e; exact UInt8.lt_irrefl _ h
      simp [h, h1, h2]
theorem cmp_ge (a b : List UInt8) : decide (0 ≤ Lib.compareBytes a b) = !ltB a b := by
  rw [← cmp_lt]
  by_cases h : Lib.compareBytes a b < 0
  · simp [h]
  · simp [h]; omega
theorem run_bytes {P : Program} {S : Nat → Prop} {w : World} {v : Value} {xs : List UInt8} (h : RdS S w v xs) : (Extern.Bytes.bytesOf v).run P w = .ok ⟨xs.toArray⟩ w := by
  rcases h with ⟨a, c, rfl, _, rfl⟩ | ⟨b, off, cap, rfl, _, _, _, hc⟩
  · cases a with
    | none => rfl
    | some p => simp [Extern.Bytes.bytesOf, Extern.Bytes.loadBytes]; rfl
  · have := Lib.run_loadBytesX (P := P) (w := w) (xs.map fun b => (b.toNat : Int)) ⟨b, off, none⟩ .empty (fun j x hj => by
      rw [Addr.add_lit]
      refine hc j _ ?_
      rw [List.getElem?_map] at hj
      cases he : xs[j]? with
      | none => rw [he] at hj; cases hj
      | some y =>
        rw [he] at hj
        simp only [Option.map_some, Option.some.injEq] at hj
        subst hj
        simp [bv, he])
    rw [List.length_map] at this
    simp only [Extern.Bytes.bytesOf, this]
    have e : Lib.bytesOf (xs.map fun b => (b.toNat : Int)) = xs := by
      unfold Lib.bytesOf
      rw [List.map_map]
      exact (List.map_congr_left fun b _ => by simp).trans (List.map_id _)
    rw [e]
    show Result.ok (⟨#[] ++ xs.toArray⟩ : ByteArray) w = _
    rw [Array.empty_append]
theorem run_compare {P : Program} {S S2 : Nat → Prop} {w : World} {va vb : Value} {xs ys : List UInt8} (hx : RdS S w va xs) (hy : RdS S2 w vb ys) :
    (Extern.BytealgCompare.compare #[va, vb]).run P w = .ok (.int .i64 (Lib.compareBytes xs ys)) w := by
  change Sem.run P (do pure (goInt (Extern.BytealgCompare.cmp (← Extern.Bytes.bytesOf va) (← Extern.Bytes.bytesOf vb)))) w = _
  simp only [Sem.run_bind, Sem.run_pure, run_bytes hx, run_bytes hy, Result.andThen]
  rw [Lib.cmp_eq]
  rfl
set_option maxRecDepth 100000 in
set_option maxHeartbeats 1000000 in
theorem compare_any (w : World) {S S2 : Nat → Prop} {a a2 : Option Addr} {n c n2 c2 : Nat} {xs ys : List UInt8} (hx : RdS S w (.slice a n c) xs) (hy : RdS S2 w (.slice a2 n2 c2) ys) :
    Calls Try.prog 29 #[.slice a n c, .slice a2 n2 c2] w fun e w' => e = .returned (.int .i64 (Lib.compareBytes xs ys)) ∧ w = w' := by
  have hc : (callFunc 39 #[.slice a n c, .slice a2 n2 c2]).run Try.prog w = .ok (.value (.int .i64 (Lib.compareBytes xs ys))) w := by
    rw [run_callFunc_extern Try.func39 (by kernel_rfl) (by kernel_rfl) (by kernel_rfl) (e := Extern.BytealgCompare.compare) (by kernel_rfl), run_compare hx hy]
    rfl
  go_enter Try.func29, Try.ntmps29
  go_wp2_with fail
  go_ret
  exact ⟨rfl, rfl⟩
end Go.Proofs.Ytcopdnigfnmnkaa
namespace Go.Proofs.Ytcopdnigfnmnkaa
def mayS (x : Sp) : Prop := 0 ≤ x.table ∧ x.table ≤ 3 ∧ x.lo.length ≤ 17 ∧ x.hi.length ≤ 17 ∧ (x.isOpen = true → x.hi = [])
instance (x : Sp) : Decidable (mayS x) := by unfold mayS; exact inferInstance
def emptyS (x : Sp) : Bool := !x.isOpen && !ltB x.lo x.hi
def inT (x : Sp) (t : Int) (k : List UInt8) : Bool := decide (x.table = t) && inS x k
def meetsS (a b : Sp) : Bool := (inT a a.table a.lo && inT b a.table a.lo) || (inT a a.table b.lo && inT b a.table b.lo)
def coversS (a b : Sp) : Bool := emptyS b || (decide (a.table = b.table) && !ltB b.lo a.lo && (a.isOpen || (!b.isOpen && !ltB a.hi b.hi)))
def pointS (t : Int) (k : List UInt8) : Sp := ⟨t, k, k ++ [0], false⟩
def allS (t : Int) : Sp := ⟨t, [], [], true⟩
def shortS (x : Sp) : Prop := x.lo.length ≤ 100 ∧ x.hi.length ≤ 100
instance (x : Sp) : Decidable (shortS x) := by unfold shortS; exact inferInstance
def fewS (l : List Sp) : Prop := l.length ≤ 100 ∧ ∀ x ∈ l, x.lo.length ≤ 100 ∧ x.hi.length ≤ 100
instance (l : List Sp) : Decidable (fewS l) := by unfold fewS; exact inferInstance
def smS (x : Sp) : Prop := x.lo.length ≤ 1000000 ∧ x.hi.length ≤ 1000000
def smL (l : List Sp) : Prop := l.length ≤ 1000000 ∧ ∀ x ∈ l, smS x
def oneT (t : Int) : Bool → List Sp → List Sp
  | _, [] => []
  | d, s :: l => if s.table = t then (if d then oneT t true l else allS t :: oneT t true l) else s :: oneT t d l
def manyT (t : Int) (l : List Sp) : Nat := l.countP fun s => decide (s.table = t)
def besideS (l : List Sp) (x : Sp) : List Sp := l.filter fun s => !coversS x s
def stays (l : List Sp) (x : Sp) : Bool := emptyS x || l.any fun s => coversS s x
def okA (l : List Sp) (x : Sp) (m : Int) : Prop := mayS x ∧ (∀ y ∈ l, mayS y) ∧ 1 ≤ m ∧ m ≤ 100
instance (l : List Sp) (x : Sp) (m : Int) : Decidable (okA l x m) := by unfold okA; exact inferInstance
def addS (l : List Sp) (x : Sp) (m : Int) : List Sp × Nat :=
  if okA l x m then
    if stays l x = true then (l, 0) else
      if (manyT x.table (besideS l x ++ [x]) : Int) ≤ m then (besideS l x ++ [x], 0) else (oneT x.table false (besideS l x ++ [x]), 0)
  else (l, 1)
theorem leB_trans {a b c : List UInt8} (h1 : ltB b a = false) (h2 : ltB c b = false) : ltB c a = false := by
  cases h : ltB c a with
  | false => rfl
  | true =>
    by_cases e : b = c
    · subst e; rw [h1] at h; cases h
    · have := ltB_total (fun e2 => e e2.symm) h2
      rw [ltB_trans this h] at h1; cases h1
theorem lt_of_leB {a b c : List UInt8} (h1 : ltB b a = false) (h2 : ltB b c = true) : ltB a c = true := by
  by_cases e : a = b
  · subst e; exact h2
  · exact ltB_trans (ltB_total (fun e2 => e e2.symm) h1) h2
theorem lt_of_ltB_le {a b c : List UInt8} (h1 : ltB a b = true) (h2 : ltB c b = false) : ltB a c = true := by
  by_cases e : b = c
  · subst e; exact h1
  · exact ltB_trans h1 (ltB_total (fun e2 => e e2.symm) h2)
theorem inS_iff {x : Sp} {k : List UInt8} : inS x k = true ↔ ltB k x.lo = false ∧ (x.isOpen = true ∨ ltB k x.hi = true) := by
  unfold inS; simp
theorem emptyS_iff {x : Sp} : emptyS x = true ↔ x.isOpen = false ∧ ltB x.lo x.hi = false := by
  unfold emptyS; simp
theorem inT_iff {x : Sp} {t : Int} {k : List UInt8} : inT x t k = true ↔ x.table = t ∧ inS x k = true := by
  unfold inT; simp
theorem inS_lo {x : Sp} {k : List UInt8} (h : inS x k = true) : inS x x.lo = true := by
  rw [inS_iff] at h ⊢
  exact ⟨ltB_irrefl _, h.2.imp id fun h2 => lt_of_leB h.1 h2⟩
theorem empty_in {x : Sp} {k : List UInt8} (h : emptyS x = true) : inS x k = false := by
  cases h2 : inS x k with
  | false => rfl
  | true =>
    rw [emptyS_iff] at h
    have h3 := inS_lo h2
    rw [inS_iff, h.1, h.2] at h3
    simp at h3
theorem covers_iff {a b : Sp} : coversS a b = true ↔ emptyS b = true ∨ (a.table = b.table ∧ ltB b.lo a.lo = false ∧ (a.isOpen = true ∨ b.isOpen = false ∧ ltB a.hi b.hi = false)) := by
  unfold coversS; simp [and_assoc]
theorem covers_in {a b : Sp} {k : List UInt8} (h : coversS a b = true) (hk : inS b k = true) : a.table = b.table ∧ inS a k = true := by
  rcases covers_iff.1 h with h1 | ⟨h1, h2, h3⟩
  · rw [empty_in h1] at hk; cases hk
  · rw [inS_iff] at hk ⊢
    refine ⟨h1, leB_trans h2 hk.1, ?_⟩
    rcases h3 with h3 | ⟨h3, h4⟩
    · exact .inl h3
    · rcases hk.2 with h5 | h5
      · rw [h3] at h5; cases h5
      · exact .inr (lt_of_ltB_le h5 h4)
end Go.Proofs.Ytcopdnigfnmnkaa
namespace Go.Proofs.Ytcopdnigfnmnkaa
open Go.ChangeShapes Go.WideShapes Go.ChangeAt Go.RowKit Go.Deep Go.Joins
def spC (x : Sp) (k v : Value) : List Value := [.int .i64 x.table, k, v, .bool x.isOpen]
def Elt.sp : Elt Sp where
  size := 4
  pos := by omega
  R S w x vs := ∃ k v, vs = spC x k v ∧ RdS S w k x.lo ∧ RdS S w v x.hi ∧ W64 x.table
  len := by rintro _ _ _ _ ⟨_, _, rfl, _⟩; rfl
  keep := by rintro _ _ _ _ _ ⟨k, v, rfl, h, h1, h2⟩ hk; exact ⟨k, v, rfl, h.keep hk, h1.keep hk, h2⟩
  weak := by rintro _ _ _ _ _ ⟨k, v, rfl, h, h1, h2⟩ hk; exact ⟨k, v, rfl, h.weak hk, h1.weak hk, h2⟩
  fit := by rintro _ _ _ _ ⟨k, v, rfl, h, h1, h2⟩; exact ⟨k, v, rfl, h.fit, h1.fit, h2⟩
  one := by
    rintro _ _ _ _ ⟨k, v, rfl, h, h1, _⟩ u hu
    have h3 := h.one
    have h4 := h1.one
    simp only [spC, List.mem_cons, List.not_mem_nil, or_false] at hu
    rcases hu with rfl | rfl | rfl | rfl
    · rfl
    · exact h3
    · exact h4
    · rfl
theorem spP : LoP Try.prog 32 24 4 := ⟨⟨by kernel_rfl, by kernel_rfl⟩, .agg #[.int .i64 0, .slice none 0 0, .slice none 0 0, .bool false], 64, by kernel_rfl, rfl, by omega⟩
theorem spS : StP Try.prog 24 4 := StP.of (by kernel_rfl)
section
variable {S S' : Nat → Prop} {w w' : World} {v : Value}
theorem RdL.sp {a : Option Addr} {n c : Nat} {l : List Sp} (h : RdL Elt.sp S w (.slice a n c) l) (r : Nat) (hr : r < l.length) :
    ∃ b off A C A2 C2, a = some ⟨b, off, none⟩ ∧ S b ∧ w.cell? ⟨b, off + r * 4, none⟩ = some (.int .i64 l[r].table) ∧ w.cell? ⟨b, off + r * 4 + 1, none⟩ = some (.slice A l[r].lo.length C) ∧ w.cell? ⟨b, off + r * 4 + 2, none⟩ = some (.slice A2 l[r].hi.length C2) ∧ w.cell? ⟨b, off + r * 4 + 3, none⟩ = some (.bool l[r].isOpen) ∧
      RdS S w (.slice A l[r].lo.length C) l[r].lo ∧ RdS S w (.slice A2 l[r].hi.length C2) l[r].hi ∧ W64 l[r].table := by
  obtain ⟨b, off, vs, rfl, hb, ⟨k, u, rfl, hk, hu, hi⟩, hc⟩ := h.at r hr
  obtain ⟨A, C, rfl, _, _⟩ := hk.shape
  obtain ⟨A2, C2, rfl, _, _⟩ := hu.shape
  exact ⟨b, off, A, C, A2, C2, rfl, hb, hc 0 _ rfl, hc 1 _ rfl, hc 2 _ rfl, hc 3 _ rfl, hk, hu, hi⟩
theorem RdSp.weak {x : Sp} (h : RdSp S w v x) (hs : ∀ k, S k → S' k) : RdSp S' w v x := by
  obtain ⟨a, c, a2, c2, e, h1, h2, h3⟩ := h
  exact ⟨a, c, a2, c2, e, h1.weak hs, h2.weak hs, h3⟩
theorem RdSp.keep {x : Sp} (h : RdSp S w v x) (hk : ∀ k, S k → w'.heap[k]? = w.heap[k]?) : RdSp S w' v x := by
  obtain ⟨a, c, a2, c2, e, h1, h2, h3⟩ := h
  exact ⟨a, c, a2, c2, e, h1.keep hk, h2.keep hk, h3⟩
theorem RdSp.fit {x : Sp} (h : RdSp S w v x) : RdSp (fun k => S k ∧ k < w.heap.size) w v x := by
  obtain ⟨a, c, a2, c2, e, h1, h2, h3⟩ := h
  exact ⟨a, c, a2, c2, e, h1.fit, h2.fit, h3⟩
theorem rdSp_R {x : Sp} {k m : Option Addr} {l n : Nat} (h : RdSp S w (.agg #[.int .i64 x.table, .slice k x.lo.length l, .slice m x.hi.length n, .bool x.isOpen]) x) : Elt.sp.R S w x [.int .i64 x.table, .slice k x.lo.length l, .slice m x.hi.length n, .bool x.isOpen] := by
  obtain ⟨_, _, _, _, e, h1, h2, h3⟩ := h
  injection e with e
  injection e with e
  injection e with _ e
  injection e with f1 e
  injection e with f2 _
  rw [← f1] at h1
  rw [← f2] at h2
  exact ⟨_, _, rfl, h1, h2, h3⟩
end
set_option maxRecDepth 4000 in
theorem opens_sp : Opens Try.prog 24 Elt.sp := by
  intro H enc w base held fuel cs x h
  obtain ⟨y0, y1, y2, y3, n, _, hl, h0, h1, h2, h3⟩ := trod_struct4 Try.underlying24 h
  have hc : cs.length = 4 := hl.trans (by kernel_rfl)
  match cs, hc with
  | [u, v, r, s], _ =>
    obtain ⟨m, hm, _, hw⟩ := DataW.trod_int (by kernel_rfl : Try.prog.underlying 3 = some (.int .i64)) (h0 : DataW.trod enc Try.prog w base (fun _ => true) held n 3 [u] = some y0)
    obtain ⟨xs, v', hv, hR⟩ := Opens.bytes (P := Try.prog) (t := 22) (e := 5) (by kernel_rfl) (by kernel_rfl) (by kernel_rfl) (h1 : DataW.trod enc Try.prog w base (fun _ => true) held n 22 [v] = some y1)
    obtain ⟨xs2, v2, hv2, hR2⟩ := Opens.bytes (P := Try.prog) (t := 22) (e := 5) (by kernel_rfl) (by kernel_rfl) (by kernel_rfl) (h2 : DataW.trod enc Try.prog w base (fun _ => true) held n 22 [r] = some y2)
    obtain ⟨g, hg, _⟩ := DataW.trod_bool (by kernel_rfl : Try.prog.underlying 4 = some .bool) (h3 : DataW.trod enc Try.prog w base (fun _ => true) held n 4 [s] = some y3)
    cases hm; cases hg; cases hv; cases hv2
    exact ⟨⟨m, xs, xs2, g⟩, v, r, rfl, hR, hR2, w64w hw⟩
theorem opens_sps : Opens Try.prog 32 (Elt.list Elt.sp) := Opens.list (by kernel_rfl) (by kernel_rfl) opens_sp
def SpEnd (w : World) (x : Sp) (e : Ending) (w' : World) : Prop := ∃ v, e = .returned v ∧ RdSp (fun k => w.heap.size ≤ k ∧ k < w'.heap.size) w' v x ∧ Below w.heap.size w w'
def SlEnd (w : World) (l : List Sp) (e : Ending) (w' : World) : Prop := ∃ a c, e = .returned (.slice a l.length c) ∧ OwnL Elt.sp 24 w.heap.size w.heap.size w' (.slice a l.length c) l ∧ Below w.heap.size w w'
theorem spBox (w : World) (t : TypeId) (us : List Value) : ∃ W, W = w.alloc (.cells us.toArray t) ∧ Below w.heap.size w W ∧ BoxN W w.heap.size t us ∧ W.heap.size = w.heap.size + 1 :=
  ⟨_, rfl, (Below.refl _ _).alloc (Nat.le_refl _) _, BoxN.new _ _ _, by simp only [World.alloc, Array.size_push]⟩
theorem spBoxes2 (w : World) (t t2 : TypeId) (us vs : List Value) : ∃ W, W = (w.alloc (.cells us.toArray t)).alloc (.cells vs.toArray t2) ∧ Below w.heap.size w W ∧ BoxN W w.heap.size t us ∧ BoxN W (w.heap.size + 1) t2 vs ∧ W.heap.size = w.heap.size + 1 + 1 := by
  have h1 : Below w.heap.size w (w.alloc (.cells us.toArray t)) := (Below.refl _ _).alloc (Nat.le_refl _) _
  have hs : (w.alloc (.cells us.toArray t)).heap.size = w.heap.size + 1 := by simp only [World.alloc, Array.size_push]
  have hb := BoxN.new (w.alloc (.cells us.toArray t)) t2 vs
  rw [hs] at hb
  exact ⟨_, rfl, h1.alloc h1.size _, (BoxN.new w t us).below ((Below.refl _ _).alloc (Nat.le_refl _) _) (by rw [hs]; omega), hb, by simp only [World.alloc, Array.size_push]⟩
end Go.Proofs.Ytcopdnigfnmnkaa
namespace Go.Proofs.Ytcopdnigfnmnkaa
open Go.RowKit Go.Shelf
theorem str_eqS {a b : List UInt8} : ((strOf a).toList == (strOf b).toList) = decide (a = b) := by
  rw [show (strOf a).toList = a by simp [strOf], show (strOf b).toList = b by simp [strOf]]
  by_cases h : a = b <;> simp [h]
theorem cmp_le (a b : List UInt8) : decide (Lib.compareBytes a b ≤ 0) = !ltB b a := by
  have h1 := cmp_lt a b
  have h2 := cmp_eq a b
  cases h : ltB a b with
  | true =>
    rw [h] at h1
    rw [ltB_asymm h]
    have := of_decide_eq_true h1
    exact decide_eq_true (by omega)
  | false =>
    rw [h] at h1
    have h3 := of_decide_eq_false h1
    by_cases e : a = b
    · rw [decide_eq_true e] at h2
      have := beq_iff_eq.1 h2
      subst e
      rw [ltB_irrefl]
      exact decide_eq_true (by omega)
    · rw [decide_eq_false e] at h2
      have := beq_eq_false_iff_ne.1 h2
      rw [ltB_total e h]
      exact decide_eq_false (by omega)
theorem sp_ext {x y : Sp} (h1 : x.table = y.table) (h2 : x.lo = y.lo) (h3 : x.hi = y.hi) (h4 : x.isOpen = y.isOpen) : x = y := by
  cases x; cases y
  simp only at h1 h2 h3 h4
  subst h1 h2 h3 h4
  rfl
set_option maxRecDepth 100000 in
set_option maxHeartbeats 4000000 in
theorem sCheck_any (w : World) {S : Nat → Prop} {v : Value} {x : Sp} (hx : RdSp S w v x) :
    Calls Try.prog 14 #[v] w fun e w' => e = .returned (.bool (decide (mayS x))) ∧ Below w.heap.size w w' := by
  obtain ⟨a1, a2, a3, a4, rfl, hlx, hhx, htx⟩ := hx
  have m1x : x.lo.length ≤ 9223372036854775807 := by have := hlx.len; unfold maxLen at this; omega
  have m2x : x.hi.length ≤ 9223372036854775807 := by have := hhx.len; unfold maxLen at this; omega
  obtain ⟨W, hW, q, Bx, hsz⟩ := spBox w 24 [.int .i64 x.table, .slice a1 x.lo.length a2, .slice a3 x.hi.length a4, .bool x.isOpen]
  clear hsz
  go_enter Try.func14, Try.ntmps14
  go_upto_region 1 with (fail)
  rw [show w.alloc (.cells #[.int .i64 x.table, .slice a1 x.lo.length a2, .slice a3 x.hi.length a4, .bool x.isOpen] 24) = W from hW.symm]
  clear hW
  have cx0 := Bx.cell (i := 0) rfl
  have cx1 := Bx.cell (i := 1) rfl
  have cx2 := Bx.cell (i := 2) rfl
  have cx3 := Bx.cell (i := 3) rfl
  have rlx := hlx.below q
  have rhx := hhx.below q
  by_cases h_t0 : 0 ≤ x.table
  · have dt0a : decide (0 ≤ x.table) = true := decide_eq_true (by omega)
    have dt0b : decide (x.table < 0) = false := decide_eq_false (by omega)
    by_cases h_t3 : x.table ≤ 3
    · have dt3a : decide (x.table ≤ 3) = true := decide_eq_true (by omega)
      have dt3b : decide (4 ≤ x.table) = false := decide_eq_false (by omega)
      by_cases h_lo : x.lo.length ≤ 17
      · have dloa : decide ((x.lo.length : Int) ≤ 17) = true := decide_eq_true (by omega)
        have dlob : decide ((17 : Int) < (x.lo.length : Int)) = false := decide_eq_false (by omega)
        by_cases h_hi : x.hi.length ≤ 17
        · have dhia : decide ((x.hi.length : Int) ≤ 17) = true := decide_eq_true (by omega)
          have dhib : decide ((17 : Int) < (x.hi.length : Int)) = false := decide_eq_false (by omega)
          cases h_op : x.isOpen with
          | true =>
            rw [h_op] at cx3
            by_cases h_h0 : x.hi.length = 0
            · have d0a : ((x.hi.length : Int) == 0) = true := beq_iff_eq.2 (by omega)
              have d0b : decide ((x.hi.length : Int) = 0) = true := decide_eq_true (by omega)
              have H := Lib.hid (show decide (mayS x) = true from decide_eq_true ⟨by omega, by omega, by omega, by omega, fun _ => List.eq_nil_of_length_eq_zero (by omega)⟩)
              clear h_t0 h_t3 h_lo h_hi h_op h_h0
              go_wp2_with fail
              go_ret
              exact ⟨by first | (rw [H.out]; done) | (rw [H.out]; rfl), q⟩
            · have d0a : ((x.hi.length : Int) == 0) = false := beq_eq_false_iff_ne.2 (by omega)
              have d0b : decide ((x.hi.length : Int) = 0) = false := decide_eq_false (by omega)
              have H := Lib.hid (show decide (mayS x) = false from decide_eq_false fun h => by have := h.2.2.2.2 h_op; rw [this] at h_h0; simp at h_h0)
              clear h_t0 h_t3 h_lo h_hi h_op h_h0
              go_wp2_with fail
              go_ret
              exact ⟨by first | (rw [H.out]; done) | (rw [H.out]; rfl), q⟩
          | false =>
            rw [h_op] at cx3
            have H := Lib.hid (show decide (mayS x) = true from decide_eq_true ⟨by omega, by omega, by omega, by omega, fun h => by rw [h_op] at h; cases h⟩)
            clear h_t0 h_t3 h_lo h_hi h_op
            go_wp2_with fail
            go_ret
            exact ⟨by first | (rw [H.out]; done) | (rw [H.out]; rfl), q⟩
        · have dhia : decide ((x.hi.length : Int) ≤ 17) = false := decide_eq_false (by omega)
          have dhib : decide ((17 : Int) < (x.hi.length : Int)) = true := decide_eq_true (by omega)
          have H := Lib.hid (show decide (mayS x) = false from decide_eq_false fun h => by have := h.2.2.2.1; omega)
          clear h_t0 h_t3 h_lo h_hi
          go_wp2_with fail
          go_ret
          exact ⟨by first | (rw [H.out]; done) | (rw [H.out]; rfl), q⟩
      · have dloa : decide ((x.lo.length : Int) ≤ 17) = false := decide_eq_false (by omega)
        have dlob : decide ((17 : Int) < (x.lo.length : Int)) = true := decide_eq_true (by omega)
        have H := Lib.hid (show decide (mayS x) = false from decide_eq_false fun h => by have := h.2.2.1; omega)
        clear h_t0 h_t3 h_lo
        go_wp2_with fail
        go_ret
        exact ⟨by first | (rw [H.out]; done) | (rw [H.out]; rfl), q⟩
    · have dt3a : decide (x.table ≤ 3) = false := decide_eq_false (by omega)
      have dt3b : decide (4 ≤ x.table) = true := decide_eq_true (by omega)
      have H := Lib.hid (show decide (mayS x) = false from decide_eq_false fun h => by have := h.2.1; omega)
      clear h_t0 h_t3
      go_wp2_with fail
      go_ret
      exact ⟨by first | (rw [H.out]; done) | (rw [H.out]; rfl), q⟩
  · have dt0a : decide (0 ≤ x.table) = false := decide_eq_false (by omega)
    have dt0b : decide (x.table < 0) = true := decide_eq_true (by omega)
    have H := Lib.hid (show decide (mayS x) = false from decide_eq_false fun h => by have := h.1; omega)
    clear h_t0
    go_wp2_with fail
    go_ret
    exact ⟨by first | (rw [H.out]; done) | (rw [H.out]; rfl), q⟩
set_option maxRecDepth 100000 in
set_option maxHeartbeats 4000000 in
theorem rCheck_any (w : World) {S : Nat → Prop} {v : Value} {x : Sp} (hx : RdSp S w v x) :
    Calls Try.prog 15 #[v] w fun e w' => e = .returned (.bool (decide (mayS x))) ∧ Below w.heap.size w w' := by
  obtain ⟨a1, a2, a3, a4, rfl, hlx, hhx, htx⟩ := hx
  have m1x : x.lo.length ≤ 9223372036854775807 := by have := hlx.len; unfold maxLen at this; omega
  have m2x : x.hi.length ≤ 9223372036854775807 := by have := hhx.len; unfold maxLen at this; omega
  obtain ⟨W, hW, q, Bx, hsz⟩ := spBox w 24 [.int .i64 x.table, .slice a1 x.lo.length a2, .slice a3 x.hi.length a4, .bool x.isOpen]
  clear hsz
  go_enter Try.func15, Try.ntmps15
  go_upto_region 1 with (fail)
  rw [show w.alloc (.cells #[.int .i64 x.table, .slice a1 x.lo.length a2, .slice a3 x.hi.length a4, .bool x.isOpen] 24) = W from hW.symm]
  clear hW
  have cx0 := Bx.cell (i := 0) rfl
  have cx1 := Bx.cell (i := 1) rfl
  have cx2 := Bx.cell (i := 2) rfl
  have cx3 := Bx.cell (i := 3) rfl
  have rlx := hlx.below q
  have rhx := hhx.below q
  by_cases h_t0 : 0 ≤ x.table
  · have dt0a : decide (0 ≤ x.table) = true := decide_eq_true (by omega)
    have dt0b : decide (x.table < 0) = false := decide_eq_false (by omega)
    by_cases h_t3 : x.table ≤ 3
    · have dt3a : decide (x.table ≤ 3) = true := decide_eq_true (by omega)
      have dt3b : decide (4 ≤ x.table) = false := decide_eq_false (by omega)
      by_cases h_lo : x.lo.length ≤ 17
      · have dloa : decide ((x.lo.length : Int) ≤ 17) = true := decide_eq_true (by omega)
        have dlob : decide ((17 : Int) < (x.lo.length : Int)) = false := decide_eq_false (by omega)
        by_cases h_hi : x.hi.length ≤ 17
        · have dhia : decide ((x.hi.length : Int) ≤ 17) = true := decide_eq_true (by omega)
          have dhib : decide ((17 : Int) < (x.hi.length : Int)) = false := decide_eq_false (by omega)
          cases h_op : x.isOpen with
          | true =>
            rw [h_op] at cx3
            by_cases h_h0 : x.hi.length = 0
            · have d0a : ((x.hi.length : Int) == 0) = true := beq_iff_eq.2 (by omega)
              have d0b : decide ((x.hi.length : Int) = 0) = true := decide_eq_true (by omega)
              have H := Lib.hid (show decide (mayS x) = true from decide_eq_true ⟨by omega, by omega, by omega, by omega, fun _ => List.eq_nil_of_length_eq_zero (by omega)⟩)
              clear h_t0 h_t3 h_lo h_hi h_op h_h0
              go_wp2_with fail
              go_ret
              exact ⟨by first | (rw [H.out]; done) | (rw [H.out]; rfl), q⟩
            · have d0a : ((x.hi.length : Int) == 0) = false := beq_eq_false_iff_ne.2 (by omega)
              have d0b : decide ((x.hi.length : Int) = 0) = false := decide_eq_false (by omega)
              have H := Lib.hid (show decide (mayS x) = false from decide_eq_false fun h => by have := h.2.2.2.2 h_op; rw [this] at h_h0; simp at h_h0)
              clear h_t0 h_t3 h_lo h_hi h_op h_h0
              go_wp2_with fail
              go_ret
              exact ⟨by first | (rw [H.out]; done) | (rw [H.out]; rfl), q⟩
          | false =>
            rw [h_op] at cx3
            have H := Lib.hid (show decide (mayS x) = true from decide_eq_true ⟨by omega, by omega, by omega, by omega, fun h => by rw [h_op] at h; cases h⟩)
            clear h_t0 h_t3 h_lo h_hi h_op
            go_wp2_with fail
            go_ret
            exact ⟨by first | (rw [H.out]; done) | (rw [H.out]; rfl), q⟩
        · have dhia : decide ((x.hi.length : Int) ≤ 17) = false := decide_eq_false (by omega)
          have dhib : decide ((17 : Int) < (x.hi.length : Int)) = true := decide_eq_true (by omega)
          have H := Lib.hid (show decide (mayS x) = false from decide_eq_false fun h => by have := h.2.2.2.1; omega)
          clear h_t0 h_t3 h_lo h_hi
          go_wp2_with fail
          go_ret
          exact ⟨by first | (rw [H.out]; done) | (rw [H.out]; rfl), q⟩
      · have dloa : decide ((x.lo.length : Int) ≤ 17) = false := decide_eq_false (by omega)
        have dlob : decide ((17 : Int) < (x.lo.length : Int)) = true := decide_eq_true (by omega)
        have H := Lib.hid (show decide (mayS x) = false from decide_eq_false fun h => by have := h.2.2.1; omega)
        clear h_t0 h_t3 h_lo
        go_wp2_with fail
        go_ret
        exact ⟨by first | (rw [H.out]; done) | (rw [H.out]; rfl), q⟩
    · have dt3a : decide (x.table ≤ 3) = false := decide_eq_false (by omega)
      have dt3b : decide (4 ≤ x.table) = true := decide_eq_true (by omega)
      have H := Lib.hid (show decide (mayS x) = false from decide_eq_false fun h => by have := h.2.1; omega)
      clear h_t0 h_t3
      go_wp2_with fail
      go_ret
      exact ⟨by first | (rw [H.out]; done) | (rw [H.out]; rfl), q⟩
  · have dt0a : decide (0 ≤ x.table) = false := decide_eq_false (by omega)
    have dt0b : decide (x.table < 0) = true := decide_eq_true (by omega)
    have H := Lib.hid (show decide (mayS x) = false from decide_eq_false fun h => by have := h.1; omega)
    clear h_t0
    go_wp2_with fail
    go_ret
    exact ⟨by first | (rw [H.out]; done) | (rw [H.out]; rfl), q⟩
set_option maxRecDepth 100000 in
set_option maxHeartbeats 4000000 in
theorem sEmpty_any (w : World) {S : Nat → Prop} {v : Value} {x : Sp} (hx : RdSp S w v x) :
    Calls Try.prog 16 #[v] w fun e w' => e = .returned (.bool (emptyS x)) ∧ Below w.heap.size w w' := by
  obtain ⟨a1, a2, a3, a4, rfl, hlx, hhx, htx⟩ := hx
  have m1x : x.lo.length ≤ 9223372036854775807 := by have := hlx.len; unfold maxLen at this; omega
  have m2x : x.hi.length ≤ 9223372036854775807 := by have := hhx.len; unfold maxLen at this; omega
  obtain ⟨W, hW, q, Bx, hsz⟩ := spBox w 24 [.int .i64 x.table, .slice a1 x.lo.length a2, .slice a3 x.hi.length a4, .bool x.isOpen]
  clear hsz
  go_enter Try.func16, Try.ntmps16
  go_upto_region 1 with (fail)
  rw [show w.alloc (.cells #[.int .i64 x.table, .slice a1 x.lo.length a2, .slice a3 x.hi.length a4, .bool x.isOpen] 24) = W from hW.symm]
  clear hW
  have cx0 := Bx.cell (i := 0) rfl
  have cx1 := Bx.cell (i := 1) rfl
  have cx2 := Bx.cell (i := 2) rfl
  have cx3 := Bx.cell (i := 3) rfl
  have rlx := hlx.below q
  have rhx := hhx.below q
  cases h_op : x.isOpen with
  | true =>
    rw [h_op] at cx3
    have H := Lib.hid (show emptyS x = false from by unfold emptyS; simp [h_op])
    clear h_op
    go_wp2_with fail
    go_ret
    exact ⟨by first | (rw [H.out]; done) | (rw [H.out]; rfl), q⟩
  | false =>
    rw [h_op] at cx3
    cases h_lh : ltB x.lo x.hi with
    | true =>
      have dlh : decide (Lib.compareBytes x.hi x.lo ≤ 0) = false := by rw [cmp_le, h_lh]; rfl
      have H := Lib.hid (show emptyS x = false from by unfold emptyS; simp [h_op, h_lh])
      clear h_op h_lh
      go_wp2_with fail
      refine (compare_any _ rhx rlx).mono ?_
      rintro e _ ⟨rfl, rfl⟩
      go_wp2_with fail
      go_ret
      exact ⟨by first | (rw [H.out]; done) | (rw [H.out]; rfl), q⟩
    | false =>
      have dlh : decide (Lib.compareBytes x.hi x.lo ≤ 0) = true := by rw [cmp_le, h_lh]; rfl
      have H := Lib.hid (show emptyS x = true from by unfold emptyS; simp [h_op, h_lh])
      clear h_op h_lh
      go_wp2_with fail
      refine (compare_any _ rhx rlx).mono ?_
      rintro e _ ⟨rfl, rfl⟩
      go_wp2_with fail
      go_ret
      exact ⟨by first | (rw [H.out]; done) | (rw [H.out]; rfl), q⟩
set_option maxRecDepth 100000 in
set_option maxHeartbeats 4000000 in
theorem sIn_any (w : World) {S S2 : Nat → Prop} {v : Value} {x : Sp} {t : Int} {A : Option Addr} {n C : Nat} {k : List UInt8} (hx : RdSp S w v x) (hk : RdS S2 w (.slice A n C) k) :
    Calls Try.prog 18 #[v, .int .i64 t, .slice A n C] w fun e w' => e = .returned (.bool (inT x t k)) ∧ Below w.heap.size w w' := by
  obtain ⟨a1, a2, a3, a4, rfl, hlx, hhx, htx⟩ := hx
  have m1x : x.lo.length ≤ 9223372036854775807 := by have := hlx.len; unfold maxLen at this; omega
  have m2x : x.hi.length ≤ 9223372036854775807 := by have := hhx.len; unfold maxLen at this; omega
  obtain ⟨W, hW, q, Bx, hsz⟩ := spBox w 24 [.int .i64 x.table, .slice a1 x.lo.length a2, .slice a3 x.hi.length a4, .bool x.isOpen]
  clear hsz
  go_enter Try.func18, Try.ntmps18
  go_upto_region 1 with (fail)
  rw [show w.alloc (.cells #[.int .i64 x.table, .slice a1 x.lo.length a2, .slice a3 x.hi.length a4, .bool x.isOpen] 24) = W from hW.symm]
  clear hW
  have cx0 := Bx.cell (i := 0) rfl
  have cx1 := Bx.cell (i := 1) rfl
  have cx2 := Bx.cell (i := 2) rfl
  have cx3 := Bx.cell (i := 3) rfl
  have rlx := hlx.below q
  have rhx := hhx.below q
  have rk := hk.below q
  by_cases h_tb : x.table = t
  · have datb : (x.table == t) = true := beq_iff_eq.2 h_tb
    have dbtb : decide (x.table = t) = true := decide_eq_true h_tb
    have dctb : (x.table = t) = True := eq_true h_tb
    have ddtb : (x.table != t) = false := by rw [bne_eq_false_iff_eq]; exact h_tb
    cases h_kl : ltB k x.lo with
    | true =>
      have dkl : decide (0 ≤ Lib.compareBytes k x.lo) = false := by rw [cmp_ge, h_kl]; rfl
      have H := Lib.hid (show inT x t k = false from by unfold inT inS; simp [h_tb, h_kl])
      clear h_tb h_kl
      go_wp2_with fail
      refine (compare_any _ rk rlx).mono ?_
      rintro e _ ⟨rfl, rfl⟩
      go_wp2_with fail
      go_ret
      exact ⟨by first | (rw [H.out]; done) | (rw [H.out]; rfl), q⟩
    | false =>
      have dkl : decide (0 ≤ Lib.compareBytes k x.lo) = true := by rw [cmp_ge, h_kl]; rfl
      cases h_op : x.isOpen with
      | true =>
        rw [h_op] at cx3
        have H := Lib.hid (show inT x t k = true from by unfold inT inS; simp [h_tb, h_kl, h_op])
        clear h_tb h_kl h_op
        go_wp2_with fail
        refine (compare_any _ rk rlx).mono ?_
        rintro e _ ⟨rfl, rfl⟩
        go_wp2_with fail
        go_ret
        exact ⟨by first | (rw [H.out]; done) | (rw [H.out]; rfl), q⟩
      | false =>
        rw [h_op] at cx3
        cases h_kh : ltB k x.hi with
        | true =>
          have dkh : decide (Lib.compareBytes k x.hi < 0) = true := (cmp_lt _ _).trans h_kh
          have H := Lib.hid (show inT x t k = true from by unfold inT inS; simp [h_tb, h_kl, h_op, h_kh])
          clear h_tb h_kl h_op h_kh
          go_wp2_with fail
          refine (compare_any _ rk rlx).mono ?_
          rintro e _ ⟨rfl, rfl⟩
          go_wp2_with fail
          refine (compare_any _ rk rhx).mono ?_
          rintro e _ ⟨rfl, rfl⟩
          go_wp2_with fail
          go_ret
          exact ⟨by first | (rw [H.out]; done) | (rw [H.out]; rfl), q⟩
        | false =>
          have dkh : decide (Lib.compareBytes k x.hi < 0) = false := (cmp_lt _ _).trans h_kh
          have H := Lib.hid (show inT x t k = false from by unfold inT inS; simp [h_tb, h_kl, h_op, h_kh])
          clear h_tb h_kl h_op h_kh
          go_wp2_with fail
          refine (compare_any _ rk rlx).mono ?_
          rintro e _ ⟨rfl, rfl⟩
          go_wp2_with fail
          refine (compare_any _ rk rhx).mono ?_
          rintro e _ ⟨rfl, rfl⟩
          go_wp2_with fail
          go_ret
          exact ⟨by first | (rw [H.out]; done) | (rw [H.out]; rfl), q⟩
  · have datb : (x.table == t) = false := beq_eq_false_iff_ne.2 h_tb
    have dbtb : decide (x.table = t) = false := decide_eq_false h_tb
    have dctb : (x.table = t) = False := eq_false h_tb
    have ddtb : (x.table != t) = true := bne_iff_ne.2 h_tb
    have H := Lib.hid (show inT x t k = false from by unfold inT inS; simp [h_tb])
    clear h_tb
    go_wp2_with fail
    go_ret
    exact ⟨by first | (rw [H.out]; done) | (rw [H.out]; rfl), q⟩
set_option maxRecDepth 100000 in
set_option maxHeartbeats 4000000 in
theorem short_any (w : World) {S : Nat → Prop} {v : Value} {x : Sp} (hx : RdSp S w v x) :
    Calls Try.prog 9 #[v] w fun e w' => e = .returned (.bool (decide (shortS x))) ∧ Below w.heap.size w w' := by
  obtain ⟨a1, a2, a3, a4, rfl, hlx, hhx, htx⟩ := hx
  have m1x : x.lo.length ≤ 9223372036854775807 := by have := hlx.len; unfold maxLen at this; omega
  have m2x : x.hi.length ≤ 9223372036854775807 := by have := hhx.len; unfold maxLen at this; omega
  obtain ⟨W, hW, q, Bx, hsz⟩ := spBox w 24 [.int .i64 x.table, .slice a1 x.lo.length a2, .slice a3 x.hi.length a4, .bool x.isOpen]
  clear hsz
  go_enter Try.func9, Try.ntmps9
  go_upto_region 1 with (fail)
  rw [show w.alloc (.cells #[.int .i64 x.table, .slice a1 x.lo.length a2, .slice a3 x.hi.length a4, .bool x.isOpen] 24) = W from hW.symm]
  clear hW
  have cx0 := Bx.cell (i := 0) rfl
  have cx1 := Bx.cell (i := 1) rfl
  have cx2 := Bx.cell (i := 2) rfl
  have cx3 := Bx.cell (i := 3) rfl
  have rlx := hlx.below q
  have rhx := hhx.below q
  by_cases h_lo : x.lo.length ≤ 100
  · have dloa : decide ((x.lo.length : Int) ≤ 100) = true := decide_eq_true (by omega)
    by_cases h_hi : x.hi.length ≤ 100
    · have dhia : decide ((x.hi.length : Int) ≤ 100) = true := decide_eq_true (by omega)
      have H := Lib.hid (show decide (shortS x) = true from decide_eq_true ⟨by omega, by omega⟩)
      clear h_lo h_hi
      go_wp2_with fail
      go_ret
      exact ⟨by first | (rw [H.out]; done) | (rw [H.out]; rfl), q⟩
    · have dhia : decide ((x.hi.length : Int) ≤ 100) = false := decide_eq_false (by omega)
      have H := Lib.hid (show decide (shortS x) = false from decide_eq_false fun h => by have := h.1; have := h.2; omega)
      clear h_lo h_hi
      go_wp2_with fail
      go_ret
      exact ⟨by first | (rw [H.out]; done) | (rw [H.out]; rfl), q⟩
  · have dloa : decide ((x.lo.length : Int) ≤ 100) = false := decide_eq_false (by omega)
    have H := Lib.hid (show decide (shortS x) = false from decide_eq_false fun h => by have := h.1; have := h.2; omega)
    clear h_lo
    go_wp2_with fail
    go_ret
    exact ⟨by first | (rw [H.out]; done) | (rw [H.out]; rfl), q⟩
set_option maxRecDepth 100000 in
set_option maxHeartbeats 4000000 in
theorem rOne_any (w : World) {S S2 : Nat → Prop} {u v : Value} {x y : Sp} (hx : RdSp S w u x) (hy : RdSp S2 w v y) :
    Calls Try.prog 10 #[u, v] w fun e w' => e = .returned (.bool (decide (x = y))) ∧ Below w.heap.size w w' := by
  obtain ⟨a1, a2, a3, a4, rfl, hlx, hhx, htx⟩ := hx
  obtain ⟨b1, b2, b3, b4, rfl, hly, hhy, hty⟩ := hy
  have m1x : x.lo.length ≤ 9223372036854775807 := by have := hlx.len; unfold maxLen at this; omega
  have m2x : x.hi.length ≤ 9223372036854775807 := by have := hhx.len; unfold maxLen at this; omega
  have m1y : y.lo.length ≤ 9223372036854775807 := by have := hly.len; unfold maxLen at this; omega
  have m2y : y.hi.length ≤ 9223372036854775807 := by have := hhy.len; unfold maxLen at this; omega
  obtain ⟨W, hW, q, Bx, By, hsz⟩ := spBoxes2 w 24 24 [.int .i64 x.table, .slice a1 x.lo.length a2, .slice a3 x.hi.length a4, .bool x.isOpen] [.int .i64 y.table, .slice b1 y.lo.length b2, .slice b3 y.hi.length b4, .bool y.isOpen]
  clear hsz
  go_enter Try.func10, Try.ntmps10
  go_upto_region 1 with (fail)
  rw [show (w.alloc (.cells #[.int .i64 x.table, .slice a1 x.lo.length a2, .slice a3 x.hi.length a4, .bool x.isOpen] 24)).alloc (.cells #[.int .i64 y.table, .slice b1 y.lo.length b2, .slice b3 y.hi.length b4, .bool y.isOpen] 24) = W from hW.symm]
  clear hW
  have cx0 := Bx.cell (i := 0) rfl
  have cx1 := Bx.cell (i := 1) rfl
  have cx2 := Bx.cell (i := 2) rfl
  have cx3 := Bx.cell (i := 3) rfl
  have rlx := hlx.below q
  have rhx := hhx.below q
  have cy0 := By.cell (i := 0) rfl
  have cy1 := By.cell (i := 1) rfl
  have cy2 := By.cell (i := 2) rfl
  have cy3 := By.cell (i := 3) rfl
  have rly := hly.below q
  have rhy := hhy.below q
  by_cases h_tb : x.table = y.table
  · have datb : (x.table == y.table) = true := beq_iff_eq.2 h_tb
    have dbtb : decide (x.table = y.table) = true := decide_eq_true h_tb
    have dctb : (x.table = y.table) = True := eq_true h_tb
    have ddtb : (x.table != y.table) = false := by rw [bne_eq_false_iff_eq]; exact h_tb
    by_cases h_lo : x.lo = y.lo
    · have dlo : ((strOf x.lo).toList == (strOf y.lo).toList) = true := by rw [str_eqS]; exact decide_eq_true h_lo
      by_cases h_hi : x.hi = y.hi
      · have dhi : ((strOf x.hi).toList == (strOf y.hi).toList) = true := by rw [str_eqS]; exact decide_eq_true h_hi
        cases h_ox : x.isOpen with
        | true =>
          rw [h_ox] at cx3
          cases h_oy : y.isOpen with
          | true =>
            rw [h_oy] at cy3
            have H := Lib.hid (show decide (x = y) = true from decide_eq_true (sp_ext h_tb h_lo h_hi (h_ox.trans h_oy.symm)))
            clear h_tb h_lo h_hi h_ox h_oy
            go_wp2_with (refine wpList_conv (x := .tmp 12) byP rfl rfl rfl rlx.rd ?_; go_wp2_with (refine wpList_conv (x := .tmp 15) byP rfl rfl rfl rly.rd ?_; go_wp2_with (refine wpList_conv (x := .tmp 21) byP rfl rfl rfl rhx.rd ?_; go_wp2_with (refine wpList_conv (x := .tmp 24) byP rfl rfl rfl rhy.rd ?_; go_wp2_with fail))))
            go_ret
            exact ⟨by first | (rw [H.out]; done) | (rw [H.out]; rfl), q⟩
          | false =>
            rw [h_oy] at cy3
            have H := Lib.hid (show decide (x = y) = false from decide_eq_false (fun h => by rw [h, h_oy] at h_ox; cases h_ox))
            clear h_tb h_lo h_hi h_ox h_oy
            go_wp2_with (refine wpList_conv (x := .tmp 12) byP rfl rfl rfl rlx.rd ?_; go_wp2_with (refine wpList_conv (x := .tmp 15) byP rfl rfl rfl rly.rd ?_; go_wp2_with (refine wpList_conv (x := .tmp 21) byP rfl rfl rfl rhx.rd ?_; go_wp2_with (refine wpList_conv (x := .tmp 24) byP rfl rfl rfl rhy.rd ?_; go_wp2_with fail))))
            go_ret
            exact ⟨by first | (rw [H.out]; done) | (rw [H.out]; rfl), q⟩
        | false =>
          rw [h_ox] at cx3
          cases h_oy : y.isOpen with
          | true =>
            rw [h_oy] at cy3
            have H := Lib.hid (show decide (x = y) = false from decide_eq_false (fun h => by rw [h, h_oy] at h_ox; cases h_ox))
            clear h_tb h_lo h_hi h_ox h_oy
            go_wp2_with (refine wpList_conv (x := .tmp 12) byP rfl rfl rfl rlx.rd ?_; go_wp2_with (refine wpList_conv (x := .tmp 15) byP rfl rfl rfl rly.rd ?_; go_wp2_with (refine wpList_conv (x := .tmp 21) byP rfl rfl rfl rhx.rd ?_; go_wp2_with (refine wpList_conv (x := .tmp 24) byP rfl rfl rfl rhy.rd ?_; go_wp2_with fail))))
            go_ret
            exact ⟨by first | (rw [H.out]; done) | (rw [H.out]; rfl), q⟩
          | false =>
            rw [h_oy] at cy3
            have H := Lib.hid (show decide (x = y) = true from decide_eq_true (sp_ext h_tb h_lo h_hi (h_ox.trans h_oy.symm)))
            clear h_tb h_lo h_hi h_ox h_oy
            go_wp2_with (refine wpList_conv (x := .tmp 12) byP rfl rfl rfl rlx.rd ?_; go_wp2_with (refine wpList_conv (x := .tmp 15) byP rfl rfl rfl rly.rd ?_; go_wp2_with (refine wpList_conv (x := .tmp 21) byP rfl rfl rfl rhx.rd ?_; go_wp2_with (refine wpList_conv (x := .tmp 24) byP rfl rfl rfl rhy.rd ?_; go_wp2_with fail))))
            go_ret
            exact ⟨by first | (rw [H.out]; done) | (rw [H.out]; rfl), q⟩
      · have dhi : ((strOf x.hi).toList == (strOf y.hi).toList) = false := by rw [str_eqS]; exact decide_eq_false h_hi
        have H := Lib.hid (show decide (x = y) = false from decide_eq_false (fun h => h_hi (by rw [h])))
        clear h_tb h_lo h_hi
        go_wp2_with (refine wpList_conv (x := .tmp 12) byP rfl rfl rfl rlx.rd ?_; go_wp2_with (refine wpList_conv (x := .tmp 15) byP rfl rfl rfl rly.rd ?_; go_wp2_with (refine wpList_conv (x := .tmp 21) byP rfl rfl rfl rhx.rd ?_; go_wp2_with (refine wpList_conv (x := .tmp 24) byP rfl rfl rfl rhy.rd ?_; go_wp2_with fail))))
        go_ret
        exact ⟨by first | (rw [H.out]; done) | (rw [H.out]; rfl), q⟩
    · have dlo : ((strOf x.lo).toList == (strOf y.lo).toList) = false := by rw [str_eqS]; exact decide_eq_false h_lo
      have H := Lib.hid (show decide (x = y) = false from decide_eq_false (fun h => h_lo (by rw [h])))
      clear h_tb h_lo
      go_wp2_with (refine wpList_conv (x := .tmp 12) byP rfl rfl rfl rlx.rd ?_; go_wp2_with (refine wpList_conv (x := .tmp 15) byP rfl rfl rfl rly.rd ?_; go_wp2_with fail))
      go_ret
      exact ⟨by first | (rw [H.out]; done) | (rw [H.out]; rfl), q⟩
  · have datb : (x.table == y.table) = false := beq_eq_false_iff_ne.2 h_tb
    have dbtb : decide (x.table = y.table) = false := decide_eq_false h_tb
    have dctb : (x.table = y.table) = False := eq_false h_tb
    have ddtb : (x.table != y.table) = true := bne_iff_ne.2 h_tb
    have H := Lib.hid (show decide (x = y) = false from decide_eq_false (fun h => h_tb (by rw [h])))
    clear h_tb
    go_wp2_with fail
    go_ret
    exact ⟨by first | (rw [H.out]; done) | (rw [H.out]; rfl), q⟩
set_option maxRecDepth 100000 in
set_option maxHeartbeats 4000000 in
theorem sCovers_any (w : World) {S S2 : Nat → Prop} {u v : Value} {x y : Sp} (hx : RdSp S w u x) (hy : RdSp S2 w v y) :
    Calls Try.prog 22 #[u, v] w fun e w' => e = .returned (.bool (coversS x y)) ∧ Below w.heap.size w w' := by
  obtain ⟨a1, a2, a3, a4, rfl, hlx, hhx, htx⟩ := hx
  obtain ⟨b1, b2, b3, b4, rfl, hly, hhy, hty⟩ := hy
  have m1x : x.lo.length ≤ 9223372036854775807 := by have := hlx.len; unfold maxLen at this; omega
  have m2x : x.hi.length ≤ 9223372036854775807 := by have := hhx.len; unfold maxLen at this; omega
  have m1y : y.lo.length ≤ 9223372036854775807 := by have := hly.len; unfold maxLen at this; omega
  have m2y : y.hi.length ≤ 9223372036854775807 := by have := hhy.len; unfold maxLen at this; omega
  obtain ⟨W, hW, q, Bx, By, hsz⟩ := spBoxes2 w 24 24 [.int .i64 x.table, .slice a1 x.lo.length a2, .slice a3 x.hi.length a4, .bool x.isOpen] [.int .i64 y.table, .slice b1 y.lo.length b2, .slice b3 y.hi.length b4, .bool y.isOpen]
  clear hsz
  go_enter Try.func22, Try.ntmps22
  go_upto_region 1 with (fail)
  rw [show (w.alloc (.cells #[.int .i64 x.table, .slice a1 x.lo.length a2, .slice a3 x.hi.length a4, .bool x.isOpen] 24)).alloc (.cells #[.int .i64 y.table, .slice b1 y.lo.length b2, .slice b3 y.hi.length b4, .bool y.isOpen] 24) = W from hW.symm]
  clear hW
  have cy0 := By.cell (i := 0) rfl
  have cy1 := By.cell (i := 1) rfl
  have cy2 := By.cell (i := 2) rfl
  have cy3 := By.cell (i := 3) rfl
  have hcl := sEmpty_any W (x := y) ⟨_, _, _, _, rfl, hly.below q, hhy.below q, hty⟩
  go_wp2_with fail
  refine hcl.mono ?_
  rintro e w1 ⟨rfl, hb⟩
  clear hcl cy0 cy1 cy2 cy3
  replace Bx := Bx.below hb Bx.lt
  replace By := By.below hb By.lt
  replace q := q.trans (hb.mono q.size)
  clear hb
  have cx0 := Bx.cell (i := 0) rfl
  have cx1 := Bx.cell (i := 1) rfl
  have cx2 := Bx.cell (i := 2) rfl
  have cx3 := Bx.cell (i := 3) rfl
  have rlx := hlx.below q
  have rhx := hhx.below q
  have cy0 := By.cell (i := 0) rfl
  have cy1 := By.cell (i := 1) rfl
  have cy2 := By.cell (i := 2) rfl
  have cy3 := By.cell (i := 3) rfl
  have rly := hly.below q
  have rhy := hhy.below q
  cases h_em : emptyS y with
  | true =>
    have H := Lib.hid (show coversS x y = true from by unfold coversS; simp [h_em])
    clear h_em
    go_wp2_with fail
    go_ret
    exact ⟨by first | (rw [H.out]; done) | (rw [H.out]; rfl), q⟩
  | false =>
    by_cases h_tb : x.table = y.table
    · have datb : (x.table == y.table) = true := beq_iff_eq.2 h_tb
      have dbtb : decide (x.table = y.table) = true := decide_eq_true h_tb
      have dctb : (x.table = y.table) = True := eq_true h_tb
      have ddtb : (x.table != y.table) = false := by rw [bne_eq_false_iff_eq]; exact h_tb
      cases h_ll : ltB y.lo x.lo with
      | true =>
        have dll : decide (Lib.compareBytes y.lo x.lo < 0) = true := (cmp_lt _ _).trans h_ll
        have H := Lib.hid (show coversS x y = false from by unfold coversS; simp [h_em, h_tb, h_ll])
        clear h_em h_tb h_ll
        go_wp2_with fail
        refine (compare_any _ rly rlx).mono ?_
        rintro e _ ⟨rfl, rfl⟩
        go_wp2_with fail
        go_ret
        exact ⟨by first | (rw [H.out]; done) | (rw [H.out]; rfl), q⟩
      | false =>
        have dll : decide (Lib.compareBytes y.lo x.lo < 0) = false := (cmp_lt _ _).trans h_ll
        cases h_ox : x.isOpen with
        | true =>
          rw [h_ox] at cx3
          have H := Lib.hid (show coversS x y = true from by unfold coversS; simp [h_em, h_tb, h_ll, h_ox])
          clear h_em h_tb h_ll h_ox
          go_wp2_with fail
          refine (compare_any _ rly rlx).mono ?_
          rintro e _ ⟨rfl, rfl⟩
          go_wp2_with fail
          go_ret
          exact ⟨by first | (rw [H.out]; done) | (rw [H.out]; rfl), q⟩
        | false =>
          rw [h_ox] at cx3
          cases h_oy : y.isOpen with
          | true =>
            rw [h_oy] at cy3
            have H := Lib.hid (show coversS x y = false from by unfold coversS; simp [h_em, h_tb, h_ll, h_ox, h_oy])
            clear h_em h_tb h_ll h_ox h_oy
            go_wp2_with fail
            refine (compare_any _ rly rlx).mono ?_
            rintro e _ ⟨rfl, rfl⟩
            go_wp2_with fail
            go_ret
            exact ⟨by first | (rw [H.out]; done) | (rw [H.out]; rfl), q⟩
          | false =>
            rw [h_oy] at cy3
            cases h_hh : ltB x.hi y.hi with
            | true =>
              have dhh : decide (Lib.compareBytes y.hi x.hi ≤ 0) = false := by rw [cmp_le, h_hh]; rfl
              have H := Lib.hid (show coversS x y = false from by unfold coversS; simp [h_em, h_tb, h_ll, h_ox, h_oy, h_hh])
              clear h_em h_tb h_ll h_ox h_oy h_hh
              go_wp2_with fail
              refine (compare_any _ rly rlx).mono ?_
              rintro e _ ⟨rfl, rfl⟩
              go_wp2_with fail
              refine (compare_any _ rhy rhx).mono ?_
              rintro e _ ⟨rfl, rfl⟩
              go_wp2_with fail
              go_ret
              exact ⟨by first | (rw [H.out]; done) | (rw [H.out]; rfl), q⟩
            | false =>
              have dhh : decide (Lib.compareBytes y.hi x.hi ≤ 0) = true := by rw [cmp_le, h_hh]; rfl
              have H := Lib.hid (show coversS x y = true from by unfold coversS; simp [h_em, h_tb, h_ll, h_ox, h_oy, h_hh])
              clear h_em h_tb h_ll h_ox h_oy h_hh
              go_wp2_with fail
              refine (compare_any _ rly rlx).mono ?_
              rintro e _ ⟨rfl, rfl⟩
              go_wp2_with fail
              refine (compare_any _ rhy rhx).mono ?_
              rintro e _ ⟨rfl, rfl⟩
              go_wp2_with fail
              go_ret
              exact ⟨by first | (rw [H.out]; done) | (rw [H.out]; rfl), q⟩
    · have datb : (x.table == y.table) = false := beq_eq_false_iff_ne.2 h_tb
      have dbtb : decide (x.table = y.table) = false := decide_eq_false h_tb
      have dctb : (x.table = y.table) = False := eq_false h_tb
      have ddtb : (x.table != y.table) = true := bne_iff_ne.2 h_tb
      have H := Lib.hid (show coversS x y = false from by unfold coversS; simp [h_em, h_tb])
      clear h_em h_tb
      go_wp2_with fail
      go_ret
      exact ⟨by first | (rw [H.out]; done) | (rw [H.out]; rfl), q⟩
set_option maxRecDepth 100000 in
set_option maxHeartbeats 4000000 in
theorem sBoth_any (w : World) {S : Nat → Prop} {a1 a3 b1 b3 : Option Addr} {a2 a4 b2 b4 g1 g2 : Nat} {x y : Sp} {A : Option Addr} {n C : Nat} {k : List UInt8} (Bx : BoxN w g1 24 [.int .i64 x.table, .slice a1 x.lo.length a2, .slice a3 x.hi.length a4, .bool x.isOpen]) (By : BoxN w g2 24 [.int .i64 y.table, .slice b1 y.lo.length b2, .slice b3 y.hi.length b4, .bool y.isOpen]) (rlx : RdS S w (.slice a1 x.lo.length a2) x.lo) (rhx : RdS S w (.slice a3 x.hi.length a4) x.hi) (htx : W64 x.table) (rly : RdS S w (.slice b1 y.lo.length b2) y.lo) (rhy : RdS S w (.slice b3 y.hi.length b4) y.hi) (hty : W64 y.table) (hk : RdS S w (.slice A n C) k) :
    Calls Try.prog 30 #[.slice A n C, .pointer (some ⟨g1, 0, none⟩), .pointer (some ⟨g2, 0, none⟩)] w fun e w' => e = .returned (.bool (inT x x.table k && inT y x.table k)) ∧ Below w.heap.size w w' := by
  have q := Below.refl w.heap.size w
  go_enter Try.func30, Try.ntmps30
  have cx0 := Bx.cell (i := 0) rfl
  have cx1 := Bx.cell (i := 1) rfl
  have cx2 := Bx.cell (i := 2) rfl
  have cx3 := Bx.cell (i := 3) rfl
  have cy0 := By.cell (i := 0) rfl
  have cy1 := By.cell (i := 1) rfl
  have cy2 := By.cell (i := 2) rfl
  have cy3 := By.cell (i := 3) rfl
  have hcl := sIn_any _ (t := x.table) ⟨_, _, _, _, rfl, rlx, rhx, htx⟩ hk
  go_wp2_with fail
  refine hcl.mono ?_
  rintro e w1 ⟨rfl, hb⟩
  clear hcl cx0 cx1 cx2 cx3 cy0 cy1 cy2 cy3
  replace Bx := Bx.below hb Bx.lt
  replace By := By.below hb By.lt
  replace rlx := rlx.below hb
  replace rhx := rhx.below hb
  replace rly := rly.below hb
  replace rhy := rhy.below hb
  replace q := q.trans (hb.mono q.size)
  clear hb
  cases h_i1 : inT x x.table k with
  | true =>
    have cx0 := Bx.cell (i := 0) rfl
    have cx1 := Bx.cell (i := 1) rfl
    have cx2 := Bx.cell (i := 2) rfl
    have cx3 := Bx.cell (i := 3) rfl
    have cy0 := By.cell (i := 0) rfl
    have cy1 := By.cell (i := 1) rfl
    have cy2 := By.cell (i := 2) rfl
    have cy3 := By.cell (i := 3) rfl
    have hcl := sIn_any _ (t := x.table) ⟨_, _, _, _, rfl, rly, rhy, hty⟩ (hk.below q)
    go_wp2_with fail
    refine hcl.mono ?_
    rintro e w2 ⟨rfl, hb⟩
    clear hcl cx0 cx1 cx2 cx3 cy0 cy1 cy2 cy3
    replace Bx := Bx.below hb Bx.lt
    replace By := By.below hb By.lt
    replace rlx := rlx.below hb
    replace rhx := rhx.below hb
    replace rly := rly.below hb
    replace rhy := rhy.below hb
    replace q := q.trans (hb.mono q.size)
    clear hb
    cases h_i2 : inT y x.table k with
    | true =>
      have H := Lib.hid (show (inT x x.table k && inT y x.table k) = true by rw [h_i1, h_i2] <;> rfl)
      clear h_i1 h_i2
      go_wp2_with fail
      go_ret
      exact ⟨by first | (rw [H.out]; done) | (rw [H.out]; rfl), q⟩
    | false =>
      have H := Lib.hid (show (inT x x.table k && inT y x.table k) = false by rw [h_i1, h_i2] <;> rfl)
      clear h_i1 h_i2
      go_wp2_with fail
      go_ret
      exact ⟨by first | (rw [H.out]; done) | (rw [H.out]; rfl), q⟩
  | false =>
    have H := Lib.hid (show (inT x x.table k && inT y x.table k) = false by rw [h_i1] <;> rfl)
    clear h_i1
    go_wp2_with fail
    go_ret
    exact ⟨by first | (rw [H.out]; done) | (rw [H.out]; rfl), q⟩
set_option maxRecDepth 100000 in
set_option maxHeartbeats 4000000 in
theorem sMeets_any (w : World) {S S2 : Nat → Prop} {u v : Value} {x y : Sp} (hx : RdSp S w u x) (hy : RdSp S2 w v y) :
    Calls Try.prog 20 #[u, v] w fun e w' => e = .returned (.bool (meetsS x y)) ∧ Below w.heap.size w w' := by
  obtain ⟨a1, a2, a3, a4, rfl, hlx, hhx, htx⟩ := hx
  obtain ⟨b1, b2, b3, b4, rfl, hly, hhy, hty⟩ := hy
  obtain ⟨W, hW, q, Bx, By, hsz⟩ := spBoxes2 w 24 24 [.int .i64 x.table, .slice a1 x.lo.length a2, .slice a3 x.hi.length a4, .bool x.isOpen] [.int .i64 y.table, .slice b1 y.lo.length b2, .slice b3 y.hi.length b4, .bool y.isOpen]
  clear hsz
  go_enter Try.func20, Try.ntmps20
  go_upto_region 1 with (fail)
  rw [show (w.alloc (.cells #[.int .i64 x.table, .slice a1 x.lo.length a2, .slice a3 x.hi.length a4, .bool x.isOpen] 24)).alloc (.cells #[.int .i64 y.table, .slice b1 y.lo.length b2, .slice b3 y.hi.length b4, .bool y.isOpen] 24) = W from hW.symm]
  clear hW
  have rlx := hlx.below q
  have rhx := hhx.below q
  have rly := hly.below q
  have rhy := hhy.below q
  clear hlx hhx hly hhy
  have cx0 := Bx.cell (i := 0) rfl
  have cx1 := Bx.cell (i := 1) rfl
  have cx2 := Bx.cell (i := 2) rfl
  have cx3 := Bx.cell (i := 3) rfl
  have cy0 := By.cell (i := 0) rfl
  have cy1 := By.cell (i := 1) rfl
  have cy2 := By.cell (i := 2) rfl
  have cy3 := By.cell (i := 3) rfl
  have hcl := sBoth_any (S := fun _ => True) _ Bx By (rlx.weak (fun _ _ => trivial)) (rhx.weak (fun _ _ => trivial)) htx (rly.weak (fun _ _ => trivial)) (rhy.weak (fun _ _ => trivial)) hty (rlx.weak (fun _ _ => trivial))
  go_wp2_with fail
  refine hcl.mono ?_
  rintro e w1 ⟨rfl, hb⟩
  clear hcl cx0 cx1 cx2 cx3 cy0 cy1 cy2 cy3
  replace Bx := Bx.below hb Bx.lt
  replace By := By.below hb By.lt
  replace rlx := rlx.below hb
  replace rhx := rhx.below hb
  replace rly := rly.below hb
  replace rhy := rhy.below hb
  replace q := q.trans (hb.mono q.size)
  clear hb
  cases h_m1 : (inT x x.table x.lo && inT y x.table x.lo) with
  | true =>
    have H := Lib.hid (show meetsS x y = true by unfold meetsS; rw [h_m1] <;> rfl)
    clear h_m1
    go_wp2_with fail
    go_ret
    exact ⟨by first | (rw [H.out]; done) | (rw [H.out]; rfl), q⟩
  | false =>
    have cx0 := Bx.cell (i := 0) rfl
    have cx1 := Bx.cell (i := 1) rfl
    have cx2 := Bx.cell (i := 2) rfl
    have cx3 := Bx.cell (i := 3) rfl
    have cy0 := By.cell (i := 0) rfl
    have cy1 := By.cell (i := 1) rfl
    have cy2 := By.cell (i := 2) rfl
    have cy3 := By.cell (i := 3) rfl
    have hcl := sBoth_any (S := fun _ => True) _ Bx By (rlx.weak (fun _ _ => trivial)) (rhx.weak (fun _ _ => trivial)) htx (rly.weak (fun _ _ => trivial)) (rhy.weak (fun _ _ => trivial)) hty (rly.weak (fun _ _ => trivial))
    go_wp2_with fail
    refine hcl.mono ?_
    rintro e w2 ⟨rfl, hb⟩
    clear hcl cx0 cx1 cx2 cx3 cy0 cy1 cy2 cy3
    replace Bx := Bx.below hb Bx.lt
    replace By := By.below hb By.lt
    replace rlx := rlx.below hb
    replace rhx := rhx.below hb
    replace rly := rly.below hb
    replace rhy := rhy.below hb
    replace q := q.trans (hb.mono q.size)
    clear hb
    cases h_m2 : (inT x x.table y.lo && inT y x.table y.lo) with
    | true =>
      have H := Lib.hid (show meetsS x y = true by unfold meetsS; rw [h_m1, h_m2] <;> rfl)
      clear h_m1 h_m2
      go_wp2_with fail
      go_ret
      exact ⟨by first | (rw [H.out]; done) | (rw [H.out]; rfl), q⟩
    | false =>
      have H := Lib.hid (show meetsS x y = false by unfold meetsS; rw [h_m1, h_m2] <;> rfl)
      clear h_m1 h_m2
      go_wp2_with fail
      go_ret
      exact ⟨by first | (rw [H.out]; done) | (rw [H.out]; rfl), q⟩
end Go.Proofs.Ytcopdnigfnmnkaa
