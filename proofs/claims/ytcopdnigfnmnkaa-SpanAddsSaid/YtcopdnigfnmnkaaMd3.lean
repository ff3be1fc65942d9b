/-
  TEXTS OF ONE PROOF, merged: OctB, Ltb, DltM, Dlt, DltD, DltU, Cmp, SpnM, Spn.
-/
import Derived.Deep.Cut
import Derived.Lib.Bytealg
import Derived.Lib.BytesEntry
import Derived.Lib.SmallJoins
import Derived.Shelf.Abstract
import Derived.Test.YtcopdnigfnmnkaaMd2
namespace Go.Proofs.Ytcopdnigfnmnkaa
open Go.RowKit
theorem clone_any (w : World) {B : Nat} {ad : Option Addr} {n c : Nat} {xs : List UInt8} (hr : Rd B w (.slice ad n c) xs) (hB : B ≤ w.heap.size) (hx : xs.length ≤ 1000000) :
    Calls Try.prog 28 #[.slice ad n c] w fun e w' => ∃ ad' k c', e = .returned (.slice ad' k c') ∧ Fresh 5 w w' (.slice ad' k c') xs := by
  have he := fun (w : World) (ad : Option Addr) (n c : Nat) => Lib.run_eql_slice_nil (P := Try.prog) w 22 5 ad n c 0 0 byP.hT
  obtain ⟨rfl, _, _⟩ := hr.len
  cases ad with
  | none =>
    have hr' := hr
    rcases hr with ⟨_, _, h, _, rfl⟩ | ⟨_, _, _, h, _⟩
    · go_enter Try.func28, Try.ntmps28
      go_wp2
      go_ret
      exact ⟨_, _, _, rfl, Fresh.nil _ _⟩
    · cases h
  | some p =>
    go_enter Try.func28, Try.ntmps28
    go_wp2_with (first
      | (refine wpList_build byP rfl rfl [] (by kernel_rfl) rfl (by simp) ?_; intro g k1 w1 hF)
      | (at_builtin; refine wpList_append byP rfl rfl rfl hF.2 rfl (hr.below (hF.1.mono hB)) hF.1.size ?_ ?hlen; intro ad' k' c' w2 hO hg hb))
    case hlen => simp; omega
    go_ret
    exact ⟨_, _, _, rfl, hF.1.trans hb, hO⟩
end Go.Proofs.Ytcopdnigfnmnkaa
namespace Go.Proofs.Ytcopdnigfnmnkaa
def ltB (a b : List UInt8) : Bool := Op.bytesLess a b
theorem ltB_irrefl : ∀ a, ltB a a = false
  | [] => rfl
  | x :: a => by
    have h := ltB_irrefl a
    unfold ltB at h ⊢
    simp [Op.bytesLess, h]
theorem ltB_trans : ∀ {a b c}, ltB a b = true → ltB b c = true → ltB a c = true
  | _, [], _, h, _ => by cases ‹List UInt8› <;> simp [ltB, Op.bytesLess] at h
  | _, _ :: _, [], _, h => by simp [ltB, Op.bytesLess] at h
  | [], _ :: _, _ :: _, _, _ => rfl
  | x :: a, y :: b, z :: c, h, k => by
    simp only [ltB, Op.bytesLess, Bool.or_eq_true, decide_eq_true_eq, Bool.and_eq_true, beq_iff_eq] at h k ⊢
    rcases h with h | ⟨rfl, h⟩
    · rcases k with k | ⟨rfl, k⟩
      · exact .inl (UInt8.lt_trans h k)
      · exact .inl h
    · rcases k with k | ⟨rfl, k⟩
      · exact .inl k
      · exact .inr ⟨rfl, ltB_trans (a := a) (b := b) (c := c) h k⟩
theorem ltB_total : ∀ {a b}, a ≠ b → ltB a b = false → ltB b a = true
  | [], [], h, _ => absurd rfl h
  | [], _ :: _, _, h => by simp [ltB, Op.bytesLess] at h
  | _ :: _, [], _, _ => rfl
  | x :: a, y :: b, hne, h => by
    simp only [ltB, Op.bytesLess, Bool.or_eq_false_iff, Bool.and_eq_false_iff, decide_eq_false_iff_not, beq_eq_false_iff_ne, Bool.or_eq_true, decide_eq_true_eq, Bool.and_eq_true, beq_iff_eq] at h ⊢
    obtain ⟨h1, h2⟩ := h
    by_cases hxy : x = y
    · subst hxy
      rcases h2 with h2 | h2
      · exact absurd rfl h2
      · exact .inr ⟨rfl, ltB_total (a := a) (b := b) (fun e => hne (by rw [e])) h2⟩
    · refine .inl ?_
      rcases UInt8.lt_or_lt_of_ne (a := x) (b := y) hxy with h3 | h3
      · exact absurd h3 h1
      · exact h3
theorem ltB_asymm {a b : List UInt8} (h : ltB a b = true) : ltB b a = false := by
  cases hb : ltB b a with
  | false => rfl
  | true => rw [← ltB_irrefl a]; exact (ltB_trans h hb).symm
end Go.Proofs.Ytcopdnigfnmnkaa
namespace Go.Proofs.Ytcopdnigfnmnkaa
section
variable {K α : Type} [DecidableEq K] (lt : K → K → Bool) (key : α → K)
def SrtE (l : List α) : Prop := l.Pairwise fun a b => lt (key a) (key b) = true
variable {lt key}
end
structure Wr where
  table : Int
  key : List UInt8
  gone : Bool
  val : List UInt8
deriving DecidableEq
structure Pq where
  key : List UInt8
  val : List UInt8
deriving DecidableEq
structure Dl where
  writes : List Wr
  marks : List Int
deriving DecidableEq
structure Sp where
  table : Int
  lo : List UInt8
  hi : List UInt8
  isOpen : Bool
deriving DecidableEq
def mayW (w : Wr) : Prop := 0 ≤ w.table ∧ w.table ≤ 3 ∧ w.key.length ≤ 16 ∧ w.val.length ≤ 32 ∧ (w.gone = true → w.val = [])
instance (w : Wr) : Decidable (mayW w) := by unfold mayW; exact inferInstance
def okM (n : Int) : Int → List Int → Prop
  | _, [] => True
  | l, m :: ms => l ≤ m ∧ m ≤ n ∧ okM n m ms
instance decM (n : Int) : ∀ l ms, Decidable (okM n l ms)
  | _, [] => isTrue trivial
  | l, m :: ms => by unfold okM; have := decM n m ms; exact inferInstance
def okD (d : Dl) : Prop := d.writes.length ≤ 20 ∧ d.marks.length ≤ 4 ∧ (∀ w ∈ d.writes, mayW w) ∧ okM d.writes.length 0 d.marks
instance (d : Dl) : Decidable (okD d) := by unfold okD; exact inferInstance
def inS (x : Sp) (k : List UInt8) : Bool := !ltB k x.lo && (x.isOpen || ltB k x.hi)
abbrev SrtQ (l : List Pq) : Prop := SrtE ltB Pq.key l
instance (l : List Pq) : Decidable (SrtQ l) := by unfold SrtQ SrtE; exact inferInstance
end Go.Proofs.Ytcopdnigfnmnkaa
namespace Go.Proofs.Ytcopdnigfnmnkaa
open Go.ChangeShapes Go.WideShapes Go.ChangeAt Go.RowKit Go.Deep Go.Joins
def W64 (s : Int) : Prop := -9223372036854775808 ≤ s ∧ s ≤ 9223372036854775807
theorem w64w {n : Int} (h : (Lit.int .i64 n).wf = true) : W64 n := by
  simp [Lit.wf, IntKind.min, IntKind.max, IntKind.signed, IntKind.bits] at h
  exact ⟨by omega, by omega⟩
section
variable {S S' : Nat → Prop} {w w' : World} {v : Value}
def RdSp (S : Nat → Prop) (w : World) (v : Value) (x : Sp) : Prop := ∃ a c a2 c2, v = .agg #[.int .i64 x.table, .slice a x.lo.length c, .slice a2 x.hi.length c2, .bool x.isOpen] ∧ RdS S w (.slice a x.lo.length c) x.lo ∧ RdS S w (.slice a2 x.hi.length c2) x.hi ∧ W64 x.table
theorem RdSp.below {x : Sp} (h : RdSp S w v x) (hb : Below w.heap.size w w') : RdSp S w' v x := by
  obtain ⟨a, c, a2, c2, e, h1, h2, h3⟩ := h
  exact ⟨a, c, a2, c2, e, h1.below hb, h2.below hb, h3⟩
end
set_option maxRecDepth 4000 in
theorem open_sp {H : Type} {enc : TypeId × Value → H} {w : World} {base : Nat} {held : Bool} {fuel : Nat} {cs : Array Value} {x : DataW H × List MemPlace} (h : DataW.trod enc Try.prog w base (fun _ => true) held fuel 24 (Value.agg cs).cells.toList = some x) : ∃ d, RdSp (· < w.heap.size) w (.agg cs) d := by
  have e0 : (Value.agg cs).cells.toList = cs.toList := by simp [Value.cells]
  rw [e0] at h
  obtain ⟨y0, y1, y2, y3, n, _, hl, h0, h1, h2, h3⟩ := trod_struct4 Try.underlying24 h
  have hc : cs.toList.length = 4 := hl.trans (by kernel_rfl)
  obtain ⟨l⟩ := cs
  match l, hc with
  | [u, v, r, s], _ =>
    obtain ⟨m, hm, _, hw⟩ := DataW.trod_int (by kernel_rfl : Try.prog.underlying 3 = some (.int .i64)) (h0 : DataW.trod enc Try.prog w base (fun _ => true) held n 3 [u] = some y0)
    obtain ⟨xs, v', hv, hR⟩ := Opens.bytes (P := Try.prog) (t := 22) (e := 5) (by kernel_rfl) (by kernel_rfl) (by kernel_rfl) (h1 : DataW.trod enc Try.prog w base (fun _ => true) held n 22 [v] = some y1)
    obtain ⟨xs2, v2, hv2, hR2⟩ := Opens.bytes (P := Try.prog) (t := 22) (e := 5) (by kernel_rfl) (by kernel_rfl) (by kernel_rfl) (h2 : DataW.trod enc Try.prog w base (fun _ => true) held n 22 [r] = some y2)
    obtain ⟨g, hg, _⟩ := DataW.trod_bool (by kernel_rfl : Try.prog.underlying 4 = some .bool) (h3 : DataW.trod enc Try.prog w base (fun _ => true) held n 4 [s] = some y3)
    cases hm; cases hg; cases hv; cases hv2
    obtain ⟨a, c, rfl, _⟩ := hR.shape
    obtain ⟨a2, c2, rfl, _⟩ := hR2.shape
    exact ⟨⟨m, xs, xs2, g⟩, a, c, a2, c2, rfl, hR, hR2, w64w hw⟩
end Go.Proofs.Ytcopdnigfnmnkaa
namespace Go.Proofs.Ytcopdnigfnmnkaa
open Go.RowKit Go.Shelf
theorem boxes2 (w : World) (t t2 : TypeId) (us vs : List Value) : ∃ W, W = (w.alloc (.cells us.toArray t)).alloc (.cells vs.toArray t2) ∧ Below w.heap.size w W ∧ BoxN W w.heap.size t us ∧ BoxN W (w.heap.size + 1) t2 vs ∧ W.heap.size = w.heap.size + 1 + 1 := by
  have h1 : Below w.heap.size w (w.alloc (.cells us.toArray t)) := (Below.refl _ _).alloc (Nat.le_refl _) _
  have s1 : (w.alloc (.cells us.toArray t)).heap.size = w.heap.size + 1 := World.size_alloc _ _
  have b1 := BoxN.new w t us
  generalize w.alloc (.cells us.toArray t) = w1 at *
  have h2 : Below w1.heap.size w1 (w1.alloc (.cells vs.toArray t2)) := (Below.refl _ _).alloc (Nat.le_refl _) _
  have s2 : (w1.alloc (.cells vs.toArray t2)).heap.size = w1.heap.size + 1 := World.size_alloc _ _
  have b2 := BoxN.new w1 t2 vs
  rw [s1] at b2 s2
  exact ⟨_, rfl, h1.trans (h2.mono h1.size), b1.below h2 b1.lt, b2, s2⟩
def NewS (W V : World) (k : Value) (xs : List UInt8) : Prop := ∃ a c, k = .slice a xs.length c ∧ RdS (fun g => W.heap.size ≤ g ∧ g < V.heap.size) V (.slice a xs.length c) xs
theorem NewS.below {W V V' : World} {k : Value} {xs : List UInt8} (h : NewS W V k xs) (hb : Below V.heap.size V V') : NewS W V' k xs := by
  obtain ⟨a, c, e, hr⟩ := h
  exact ⟨a, c, e, (hr.below hb).weak fun g hg => ⟨hg.1, Nat.lt_of_lt_of_le hg.2 hb.size⟩⟩
theorem NewS.grown {W V V' : World} {k : Value} {xs : List UInt8} {b : Nat} (h : NewS W V k xs) (hg : V.grownBy V' (some b)) (hb : b < W.heap.size) : NewS W V' k xs := by
  obtain ⟨a, c, e, hr⟩ := h
  exact ⟨a, c, e, (hr.keep fun k hk => hg.block k hk.2 fun e => by injection e with e; have := hk.1; omega).weak fun g h => ⟨h.1, Nat.lt_of_lt_of_le h.2 hg.size⟩⟩
theorem NewS.of {W V V' : World} {E : TypeId} {a : Option Addr} {k c : Nat} {xs : List UInt8} (h : Below W.heap.size W V) (hf : Fresh E V V' (.slice a k c) xs) : NewS W V' (.slice a k c) xs := by
  obtain rfl : k = xs.length := hf.len
  exact ⟨a, c, rfl, hf.2.rdS.weak fun g hg => ⟨Nat.le_trans h.size hg.1, hg.2⟩⟩
end Go.Proofs.Ytcopdnigfnmnkaa
namespace Go.Proofs.Ytcopdnigfnmnkaa
open Go.RowKit Go.Shelf
section
variable {α : Type} {P : Program} {T E S t : TypeId} {ops : Array Oper} {rest : List Oper} {o : Oper} {a : Act} {Q : Exit → Act → World → Prop} {w : World} {K : Act → World → Prop}
theorem wp_buildZ (hP : ByP P T E S) (ho : o.op = .buildSlice T 0 #[]) (h : ∀ w', Fresh E w w' (.slice (some ⟨w.heap.size, 0, none⟩) 0 0) [] → K (a.put o.dst (.slice (some ⟨w.heap.size, 0, none⟩) 0 0)) w') : o.wp P a w K Q := by
  have hrun := run_build hP w [] (by simp)
  have hf := fresh_build E w [] (by simp)
  simp only [bv, List.map_nil, List.zipIdx_nil, List.length_nil] at hrun hf
  unfold Oper.wp execOp
  simp only [ho, Sem.run_bind, Sem.run_pure, Result.andThen_ok, List.map_toArray, List.map_nil, hrun]
  exact h _ hf
theorem wp_build4 (hP : StP P t 4) {x y z s : Operand} {u v r q : Value} (ho : o.op = .build t #[(0, x), (1, y), (2, z), (3, s)]) (hx : a.eval x = u) (hy : a.eval y = v) (hz : a.eval z = r) (hs : a.eval s = q) (hu1 : u.cells = #[u]) (hv1 : v.cells = #[v]) (hr1 : r.cells = #[r]) (hq1 : q.cells = #[q]) (h : K (a.put o.dst (.agg #[u, v, r, q])) w) : o.wp P a w K Q := by
  obtain ⟨fs, hu, hfs, hf⟩ := hP.hu
  obtain ⟨f0, g0, o0, s0⟩ := hf 0 (by omega)
  obtain ⟨f1, g1, o1, s1⟩ := hf 1 (by omega)
  obtain ⟨f2, g2, o2, s2⟩ := hf 2 (by omega)
  obtain ⟨f3, g3, o3, s3⟩ := hf 3 (by omega)
  obtain ⟨zs, hzs, hz0⟩ := hP.zero
  obtain ⟨l⟩ := fs
  obtain ⟨zl⟩ := zs
  match l, hfs with
  | [k0, k1, k2, k3], _ =>
    match zl, hzs with
    | [z0, z1, z2, z3], _ =>
      simp at g0 g1 g2 g3
      subst g0; subst g1; subst g2; subst g3
      refine wp_run' ?_ h
      simp only [execOp, ho, List.map_toArray, List.map_cons, List.map_nil, hx, hy, hz, hs]
      simp [Instr.build, run_underlying hu, hz0, run_sizeOf' s0, run_sizeOf' s1, run_sizeOf' s2, run_sizeOf' s3, Instr.fill, hu1, hv1, hr1, hq1, o0, o1, o2, o3, show (Value.agg #[z0, z1, z2, z3]).cells = #[z0, z1, z2, z3] from rfl]
end
end Go.Proofs.Ytcopdnigfnmnkaa
namespace Go.Proofs.Ytcopdnigfnmnkaa
open Go.RowKit
theorem u8_tri (x y : UInt8) : x < y ∨ x = y ∨ y < x := by
  rcases Nat.lt_trichotomy x.toNat y.toNat with h | h | h
  · exact .inl (UInt8.lt_iff_toNat_lt.2 h)
  · exact .inr (.inl (UInt8.toNat_inj.1 h))
  · exact .inr (.inr (UInt8.lt_iff_toNat_lt.2 h))
theorem cmp_lt : ∀ (a b : List UInt8), decide (Lib.compareBytes a b < 0) = ltB a b
  | [], [] => rfl
  | [], _ :: _ => rfl
  | _ :: _, [] => rfl
  | x :: a, y :: b => by
    have ih := cmp_lt a b
    unfold Lib.compareBytes ltB Op.bytesLess
    unfold ltB at ih
    rcases u8_tri x y with h | h | h
    · simp [h]
    · subst h
      simp [UInt8.lt_irrefl, ih]
    · have h1 : ¬ x < y := UInt8.lt_asymm h
      have h2 : x ≠ y := fun e => by subst e; exact UInt8.lt_irrefl _ h
      simp [h, h1, h2]
theorem cmp_eq : ∀ (a b : List UInt8), (Lib.compareBytes a b == 0) = decide (a = b)
  | [], [] => rfl
  | [], _ :: _ => rfl
  | _ :: _, [] => rfl
  | x :: a, y :: b => by
    have ih := cmp_eq a b
    unfold Lib.compareBytes
    rcases u8_tri x y with h | h | h
    · have h2 : x ≠ y := fun e => by subst e; exact UInt8.lt_irrefl _ h
      simp [h, h2]
    · subst h
      simp [UInt8.lt_irrefl, ih]
    · have h1 : ¬ x < y := UInt8.lt_asymm h
      have h2 : x ≠ y := fun e => by subst e; exact UInt8.lt_irrefl _ h
      simp [h, h1, h2]
theorem cmp_ge (a b : List UInt8) : decide (0 ≤ Lib.compareBytes a b) = !ltB a b := by
  rw [← cmp_lt]
  by_cases h : Lib.compareBytes a b < 0
  · simp [h]
  · simp [h]; omega
theorem run_bytes {P : Program} {S : Nat → Prop} {w : World} {v : Value} {xs : List UInt8} (h : RdS S w v xs) : (Extern.Bytes.bytesOf v).run P w = .ok ⟨xs.toArray⟩ w := by
  rcases h with ⟨a, c, rfl, _, rfl⟩ | ⟨b, off, cap, rfl, _, _, _, hc⟩
  · cases a with
    | none => rfl
    | some p => simp [Extern.Bytes.bytesOf, Extern.Bytes.loadBytes]; rfl
  · have := Lib.run_loadBytesX (P := P) (w := w) (xs.map fun b => (b.toNat : Int)) ⟨b, off, none⟩ .empty (fun j x hj => by
      rw [Addr.add_lit]
      refine hc j _ ?_
      rw [List.getElem?_map] at hj
      cases he : xs[j]? with
      | none => rw [he] at hj; cases hj
      | some y =>
        rw [he] at hj
        simp only [Option.map_some, Option.some.injEq] at hj
        subst hj
        simp [bv, he])
    rw [List.length_map] at this
    simp only [Extern.Bytes.bytesOf, this]
    have e : Lib.bytesOf (xs.map fun b => (b.toNat : Int)) = xs := by
      unfold Lib.bytesOf
      rw [List.map_map]
      exact (List.map_congr_left fun b _ => by simp).trans (List.map_id _)
    rw [e]
    show Result.ok (⟨#[] ++ xs.toArray⟩ : ByteArray) w = _
    rw [Array.empty_append]
theorem run_compare {P : Program} {S S2 : Nat → Prop} {w : World} {va vb : Value} {xs ys : List UInt8} (hx : RdS S w va xs) (hy : RdS S2 w vb ys) :
    (Extern.BytealgCompare.compare #[va, vb]).run P w = .ok (.int .i64 (Lib.compareBytes xs ys)) w := by
  change Sem.run P (do pure (goInt (Extern.BytealgCompare.cmp (← Extern.Bytes.bytesOf va) (← Extern.Bytes.bytesOf vb)))) w = _
  simp only [Sem.run_bind, Sem.run_pure, run_bytes hx, run_bytes hy, Result.andThen]
  rw [Lib.cmp_eq]
  rfl
set_option maxRecDepth 100000 in
set_option maxHeartbeats 1000000 in
theorem compare_any (w : World) {S S2 : Nat → Prop} {a a2 : Option Addr} {n c n2 c2 : Nat} {xs ys : List UInt8} (hx : RdS S w (.slice a n c) xs) (hy : RdS S2 w (.slice a2 n2 c2) ys) :
    Calls Try.prog 29 #[.slice a n c, .slice a2 n2 c2] w fun e w' => e = .returned (.int .i64 (Lib.compareBytes xs ys)) ∧ w = w' := by
  have hc : (callFunc 39 #[.slice a n c, .slice a2 n2 c2]).run Try.prog w = .ok (.value (.int .i64 (Lib.compareBytes xs ys))) w := by
    rw [run_callFunc_extern Try.func39 (by kernel_rfl) (by kernel_rfl) (by kernel_rfl) (e := Extern.BytealgCompare.compare) (by kernel_rfl), run_compare hx hy]
    rfl
  go_enter Try.func29, Try.ntmps29
  go_wp2_with fail
  go_ret
  exact ⟨rfl, rfl⟩
end Go.Proofs.Ytcopdnigfnmnkaa
namespace Go.Proofs.Ytcopdnigfnmnkaa
def mayS (x : Sp) : Prop := 0 ≤ x.table ∧ x.table ≤ 3 ∧ x.lo.length ≤ 17 ∧ x.hi.length ≤ 17 ∧ (x.isOpen = true → x.hi = [])
instance (x : Sp) : Decidable (mayS x) := by unfold mayS; exact inferInstance
def emptyS (x : Sp) : Bool := !x.isOpen && !ltB x.lo x.hi
def inT (x : Sp) (t : Int) (k : List UInt8) : Bool := decide (x.table = t) && inS x k
def meetsS (a b : Sp) : Bool := (inT a a.table a.lo && inT b a.table a.lo) || (inT a a.table b.lo && inT b a.table b.lo)
def coversS (a b : Sp) : Bool := emptyS b || (decide (a.table = b.table) && !ltB b.lo a.lo && (a.isOpen || (!b.isOpen && !ltB a.hi b.hi)))
def pointS (t : Int) (k : List UInt8) : Sp := ⟨t, k, k ++ [0], false⟩
def allS (t : Int) : Sp := ⟨t, [], [], true⟩
def shortS (x : Sp) : Prop := x.lo.length ≤ 100 ∧ x.hi.length ≤ 100
instance (x : Sp) : Decidable (shortS x) := by unfold shortS; exact inferInstance
def fewS (l : List Sp) : Prop := l.length ≤ 100 ∧ ∀ x ∈ l, x.lo.length ≤ 100 ∧ x.hi.length ≤ 100
instance (l : List Sp) : Decidable (fewS l) := by unfold fewS; exact inferInstance
def smS (x : Sp) : Prop := x.lo.length ≤ 1000000 ∧ x.hi.length ≤ 1000000
def smL (l : List Sp) : Prop := l.length ≤ 1000000 ∧ ∀ x ∈ l, smS x
def oneT (t : Int) : Bool → List Sp → List Sp
  | _, [] => []
  | d, s :: l => if s.table = t then (if d then oneT t true l else allS t :: oneT t true l) else s :: oneT t d l
def manyT (t : Int) (l : List Sp) : Nat := l.countP fun s => decide (s.table = t)
def besideS (l : List Sp) (x : Sp) : List Sp := l.filter fun s => !coversS x s
def stays (l : List Sp) (x : Sp) : Bool := emptyS x || l.any fun s => coversS s x
def okA (l : List Sp) (x : Sp) (m : Int) : Prop := mayS x ∧ (∀ y ∈ l, mayS y) ∧ 1 ≤ m ∧ m ≤ 100
instance (l : List Sp) (x : Sp) (m : Int) : Decidable (okA l x m) := by unfold okA; exact inferInstance
def addS (l : List Sp) (x : Sp) (m : Int) : List Sp × Nat :=
  if okA l x m then
    if stays l x = true then (l, 0) else
      if (manyT x.table (besideS l x ++ [x]) : Int) ≤ m then (besideS l x ++ [x], 0) else (oneT x.table false (besideS l x ++ [x]), 0)
  else (l, 1)
end Go.Proofs.Ytcopdnigfnmnkaa
namespace Go.Proofs.Ytcopdnigfnmnkaa
open Go.ChangeShapes Go.WideShapes Go.ChangeAt Go.RowKit Go.Deep Go.Joins
def spC (x : Sp) (k v : Value) : List Value := [.int .i64 x.table, k, v, .bool x.isOpen]
def Elt.sp : Elt Sp where
  size := 4
  pos := by omega
  R S w x vs := ∃ k v, vs = spC x k v ∧ RdS S w k x.lo ∧ RdS S w v x.hi ∧ W64 x.table
  len := by rintro _ _ _ _ ⟨_, _, rfl, _⟩; rfl
  keep := by rintro _ _ _ _ _ ⟨k, v, rfl, h, h1, h2⟩ hk; exact ⟨k, v, rfl, h.keep hk, h1.keep hk, h2⟩
  weak := by rintro _ _ _ _ _ ⟨k, v, rfl, h, h1, h2⟩ hk; exact ⟨k, v, rfl, h.weak hk, h1.weak hk, h2⟩
  fit := by rintro _ _ _ _ ⟨k, v, rfl, h, h1, h2⟩; exact ⟨k, v, rfl, h.fit, h1.fit, h2⟩
  one := by
    rintro _ _ _ _ ⟨k, v, rfl, h, h1, _⟩ u hu
    have h3 := h.one
    have h4 := h1.one
    simp only [spC, List.mem_cons, List.not_mem_nil, or_false] at hu
    rcases hu with rfl | rfl | rfl | rfl
    · rfl
    · exact h3
    · exact h4
    · rfl
theorem spP : LoP Try.prog 32 24 4 := ⟨⟨by kernel_rfl, by kernel_rfl⟩, .agg #[.int .i64 0, .slice none 0 0, .slice none 0 0, .bool false], 64, by kernel_rfl, rfl, by omega⟩
theorem spS : StP Try.prog 24 4 := StP.of (by kernel_rfl)
section
variable {S S' : Nat → Prop} {w w' : World} {v : Value}
theorem RdL.sp {a : Option Addr} {n c : Nat} {l : List Sp} (h : RdL Elt.sp S w (.slice a n c) l) (r : Nat) (hr : r < l.length) :
    ∃ b off A C A2 C2, a = some ⟨b, off, none⟩ ∧ S b ∧ w.cell? ⟨b, off + r * 4, none⟩ = some (.int .i64 l[r].table) ∧ w.cell? ⟨b, off + r * 4 + 1, none⟩ = some (.slice A l[r].lo.length C) ∧ w.cell? ⟨b, off + r * 4 + 2, none⟩ = some (.slice A2 l[r].hi.length C2) ∧ w.cell? ⟨b, off + r * 4 + 3, none⟩ = some (.bool l[r].isOpen) ∧
      RdS S w (.slice A l[r].lo.length C) l[r].lo ∧ RdS S w (.slice A2 l[r].hi.length C2) l[r].hi ∧ W64 l[r].table := by
  obtain ⟨b, off, vs, rfl, hb, ⟨k, u, rfl, hk, hu, hi⟩, hc⟩ := h.at r hr
  obtain ⟨A, C, rfl, _, _⟩ := hk.shape
  obtain ⟨A2, C2, rfl, _, _⟩ := hu.shape
  exact ⟨b, off, A, C, A2, C2, rfl, hb, hc 0 _ rfl, hc 1 _ rfl, hc 2 _ rfl, hc 3 _ rfl, hk, hu, hi⟩
theorem RdSp.weak {x : Sp} (h : RdSp S w v x) (hs : ∀ k, S k → S' k) : RdSp S' w v x := by
  obtain ⟨a, c, a2, c2, e, h1, h2, h3⟩ := h
  exact ⟨a, c, a2, c2, e, h1.weak hs, h2.weak hs, h3⟩
theorem RdSp.keep {x : Sp} (h : RdSp S w v x) (hk : ∀ k, S k → w'.heap[k]? = w.heap[k]?) : RdSp S w' v x := by
  obtain ⟨a, c, a2, c2, e, h1, h2, h3⟩ := h
  exact ⟨a, c, a2, c2, e, h1.keep hk, h2.keep hk, h3⟩
theorem RdSp.fit {x : Sp} (h : RdSp S w v x) : RdSp (fun k => S k ∧ k < w.heap.size) w v x := by
  obtain ⟨a, c, a2, c2, e, h1, h2, h3⟩ := h
  exact ⟨a, c, a2, c2, e, h1.fit, h2.fit, h3⟩
theorem rdSp_R {x : Sp} {k m : Option Addr} {l n : Nat} (h : RdSp S w (.agg #[.int .i64 x.table, .slice k x.lo.length l, .slice m x.hi.length n, .bool x.isOpen]) x) : Elt.sp.R S w x [.int .i64 x.table, .slice k x.lo.length l, .slice m x.hi.length n, .bool x.isOpen] := by
  obtain ⟨_, _, _, _, e, h1, h2, h3⟩ := h
  injection e with e
  injection e with e
  injection e with _ e
  injection e with f1 e
  injection e with f2 _
  rw [← f1] at h1
  rw [← f2] at h2
  exact ⟨_, _, rfl, h1, h2, h3⟩
end
set_option maxRecDepth 4000 in
theorem opens_sp : Opens Try.prog 24 Elt.sp := by
  intro H enc w base held fuel cs x h
  obtain ⟨y0, y1, y2, y3, n, _, hl, h0, h1, h2, h3⟩ := trod_struct4 Try.underlying24 h
  have hc : cs.length = 4 := hl.trans (by kernel_rfl)
  match cs, hc with
  | [u, v, r, s], _ =>
    obtain ⟨m, hm, _, hw⟩ := DataW.trod_int (by kernel_rfl : Try.prog.underlying 3 = some (.int .i64)) (h0 : DataW.trod enc Try.prog w base (fun _ => true) held n 3 [u] = some y0)
    obtain ⟨xs, v', hv, hR⟩ := Opens.bytes (P := Try.prog) (t := 22) (e := 5) (by kernel_rfl) (by kernel_rfl) (by kernel_rfl) (h1 : DataW.trod enc Try.prog w base (fun _ => true) held n 22 [v] = some y1)
    obtain ⟨xs2, v2, hv2, hR2⟩ := Opens.bytes (P := Try.prog) (t := 22) (e := 5) (by kernel_rfl) (by kernel_rfl) (by kernel_rfl) (h2 : DataW.trod enc Try.prog w base (fun _ => true) held n 22 [r] = some y2)
    obtain ⟨g, hg, _⟩ := DataW.trod_bool (by kernel_rfl : Try.prog.underlying 4 = some .bool) (h3 : DataW.trod enc Try.prog w base (fun _ => true) held n 4 [s] = some y3)
    cases hm; cases hg; cases hv; cases hv2
    exact ⟨⟨m, xs, xs2, g⟩, v, r, rfl, hR, hR2, w64w hw⟩
theorem opens_sps : Opens Try.prog 32 (Elt.list Elt.sp) := Opens.list (by kernel_rfl) (by kernel_rfl) opens_sp
def SpEnd (w : World) (x : Sp) (e : Ending) (w' : World) : Prop := ∃ v, e = .returned v ∧ RdSp (fun k => w.heap.size ≤ k ∧ k < w'.heap.size) w' v x ∧ Below w.heap.size w w'
def SlEnd (w : World) (l : List Sp) (e : Ending) (w' : World) : Prop := ∃ a c, e = .returned (.slice a l.length c) ∧ OwnL Elt.sp 24 w.heap.size w.heap.size w' (.slice a l.length c) l ∧ Below w.heap.size w w'
theorem spBox (w : World) (t : TypeId) (us : List Value) : ∃ W, W = w.alloc (.cells us.toArray t) ∧ Below w.heap.size w W ∧ BoxN W w.heap.size t us ∧ W.heap.size = w.heap.size + 1 :=
  ⟨_, rfl, (Below.refl _ _).alloc (Nat.le_refl _) _, BoxN.new _ _ _, by simp only [World.alloc, Array.size_push]⟩
theorem spBoxes2 (w : World) (t t2 : TypeId) (us vs : List Value) : ∃ W, W = (w.alloc (.cells us.toArray t)).alloc (.cells vs.toArray t2) ∧ Below w.heap.size w W ∧ BoxN W w.heap.size t us ∧ BoxN W (w.heap.size + 1) t2 vs ∧ W.heap.size = w.heap.size + 1 + 1 := by
  have h1 : Below w.heap.size w (w.alloc (.cells us.toArray t)) := (Below.refl _ _).alloc (Nat.le_refl _) _
  have hs : (w.alloc (.cells us.toArray t)).heap.size = w.heap.size + 1 := by simp only [World.alloc, Array.size_push]
  have hb := BoxN.new (w.alloc (.cells us.toArray t)) t2 vs
  rw [hs] at hb
  exact ⟨_, rfl, h1.alloc h1.size _, (BoxN.new w t us).below ((Below.refl _ _).alloc (Nat.le_refl _) _) (by rw [hs]; omega), hb, by simp only [World.alloc, Array.size_push]⟩
end Go.Proofs.Ytcopdnigfnmnkaa
