/-
  TEXTS OF ONE PROOF, merged: DltM, Dlt, Cmp, SpnM, Spn, RpM, Rps, RvL, Sink, Line, Apv, Qui, DltZ.
-/
import Derived.BigQuiet
import Derived.Deep.Cut
import Derived.Laws.CopyRow
import Derived.Lib.Bytealg
import Derived.Lib.BytesEntry
import Derived.Lib.SmallJoins
import Derived.Shelf.Abstract
import Derived.Test.YtobelnedhlepaaaKt1
namespace Go.Proofs.Ytobelnedhlepaaa
section
variable {K α : Type} [DecidableEq K] (lt : K → K → Bool) (key : α → K)
def SrtE (l : List α) : Prop := l.Pairwise fun a b => lt (key a) (key b) = true
variable {lt key}
end
structure Wr where
  table : Int
  key : List UInt8
  gone : Bool
  val : List UInt8
deriving DecidableEq
structure Pq where
  key : List UInt8
  val : List UInt8
deriving DecidableEq
structure Dl where
  writes : List Wr
  marks : List Int
deriving DecidableEq
structure Sp where
  table : Int
  lo : List UInt8
  hi : List UInt8
  isOpen : Bool
deriving DecidableEq
def mayW (w : Wr) : Prop := 0 ≤ w.table ∧ w.table ≤ 3 ∧ w.key.length ≤ 16 ∧ w.val.length ≤ 32 ∧ (w.gone = true → w.val = [])
instance (w : Wr) : Decidable (mayW w) := by unfold mayW; exact inferInstance
def okM (n : Int) : Int → List Int → Prop
  | _, [] => True
  | l, m :: ms => l ≤ m ∧ m ≤ n ∧ okM n m ms
instance decM (n : Int) : ∀ l ms, Decidable (okM n l ms)
  | _, [] => isTrue trivial
  | l, m :: ms => by unfold okM; have := decM n m ms; exact inferInstance
def okD (d : Dl) : Prop := d.writes.length ≤ 20 ∧ d.marks.length ≤ 4 ∧ (∀ w ∈ d.writes, mayW w) ∧ okM d.writes.length 0 d.marks
instance (d : Dl) : Decidable (okD d) := by unfold okD; exact inferInstance
def inS (x : Sp) (k : List UInt8) : Bool := !ltB k x.lo && (x.isOpen || ltB k x.hi)
abbrev SrtQ (l : List Pq) : Prop := SrtE ltB Pq.key l
instance (l : List Pq) : Decidable (SrtQ l) := by unfold SrtQ SrtE; exact inferInstance
end Go.Proofs.Ytobelnedhlepaaa
namespace Go.Proofs.Ytobelnedhlepaaa
open Go.ChangeShapes Go.WideShapes Go.ChangeAt Go.RowKit Go.Deep Go.Joins
def W64 (s : Int) : Prop := -9223372036854775808 ≤ s ∧ s ≤ 9223372036854775807
theorem w64w {n : Int} (h : (Lit.int .i64 n).wf = true) : W64 n := by
  simp [Lit.wf, IntKind.min, IntKind.max, IntKind.signed, IntKind.bits] at h
  exact ⟨by omega, by omega⟩
def wrC (x : Wr) (k v : Value) : List Value := [.int .i64 x.table, k, .bool x.gone, v]
def Elt.wr : Elt Wr where
  size := 4
  pos := by omega
  R S w x vs := ∃ k v, vs = wrC x k v ∧ RdS S w k x.key ∧ RdS S w v x.val ∧ W64 x.table
  len := by rintro _ _ _ _ ⟨_, _, rfl, _⟩; rfl
  keep := by rintro _ _ _ _ _ ⟨k, v, rfl, h, h1, h2⟩ hk; exact ⟨k, v, rfl, h.keep hk, h1.keep hk, h2⟩
  weak := by rintro _ _ _ _ _ ⟨k, v, rfl, h, h1, h2⟩ hk; exact ⟨k, v, rfl, h.weak hk, h1.weak hk, h2⟩
  fit := by rintro _ _ _ _ ⟨k, v, rfl, h, h1, h2⟩; exact ⟨k, v, rfl, h.fit, h1.fit, h2⟩
  one := by
    rintro _ _ _ _ ⟨k, v, rfl, h, h1, _⟩ u hu
    have h3 := h.one
    have h4 := h1.one
    simp only [wrC, List.mem_cons, List.not_mem_nil, or_false] at hu
    rcases hu with rfl | rfl | rfl | rfl
    · rfl
    · exact h3
    · rfl
    · exact h4
def Elt.int : Elt Int where
  size := 1
  pos := by omega
  R _ _ x vs := vs = [.int .i64 x] ∧ W64 x
  len := by rintro _ _ _ _ ⟨rfl, _⟩; rfl
  keep := by rintro _ _ _ _ _ h _; exact h
  weak := by rintro _ _ _ _ _ h _; exact h
  fit := by rintro _ _ _ _ h; exact h
  one := by
    rintro _ _ _ _ ⟨rfl, _⟩ u hu
    simp only [List.mem_cons, List.not_mem_nil, or_false] at hu
    subst hu; rfl
theorem wrP : LoP Try.prog 25 59 4 := ⟨⟨by kernel_rfl, by kernel_rfl⟩, .agg #[.int .i64 0, .slice none 0 0, .bool false, .slice none 0 0], 64, by kernel_rfl, rfl, by omega⟩
theorem wrS : StP Try.prog 59 4 := StP.of (by kernel_rfl)
theorem inP : LoP Try.prog 31 3 1 := ⟨⟨by kernel_rfl, by kernel_rfl⟩, .int .i64 0, 8, by kernel_rfl, rfl, by omega⟩
theorem dlS : StP Try.prog 33 2 := StP.of (by kernel_rfl)
section
variable {S S' : Nat → Prop} {w w' : World} {v : Value}
theorem RdL.wr {a : Option Addr} {n c : Nat} {l : List Wr} (h : RdL Elt.wr S w (.slice a n c) l) (r : Nat) (hr : r < l.length) :
    ∃ b off A C A2 C2, a = some ⟨b, off, none⟩ ∧ S b ∧ w.cell? ⟨b, off + r * 4, none⟩ = some (.int .i64 l[r].table) ∧ w.cell? ⟨b, off + r * 4 + 1, none⟩ = some (.slice A l[r].key.length C) ∧ w.cell? ⟨b, off + r * 4 + 2, none⟩ = some (.bool l[r].gone) ∧ w.cell? ⟨b, off + r * 4 + 3, none⟩ = some (.slice A2 l[r].val.length C2) ∧
      RdS S w (.slice A l[r].key.length C) l[r].key ∧ RdS S w (.slice A2 l[r].val.length C2) l[r].val ∧ W64 l[r].table := by
  obtain ⟨b, off, vs, rfl, hb, ⟨k, u, rfl, hk, hu, hi⟩, hc⟩ := h.at r hr
  obtain ⟨A, C, rfl, _, _⟩ := hk.shape
  obtain ⟨A2, C2, rfl, _, _⟩ := hu.shape
  exact ⟨b, off, A, C, A2, C2, rfl, hb, hc 0 _ rfl, hc 1 _ rfl, hc 2 _ rfl, hc 3 _ rfl, hk, hu, hi⟩
def RdWr (S : Nat → Prop) (w : World) (v : Value) (x : Wr) : Prop := ∃ a c a2 c2, v = .agg #[.int .i64 x.table, .slice a x.key.length c, .bool x.gone, .slice a2 x.val.length c2] ∧ RdS S w (.slice a x.key.length c) x.key ∧ RdS S w (.slice a2 x.val.length c2) x.val ∧ W64 x.table
def RdDl (S : Nat → Prop) (w : World) (v : Value) (d : Dl) : Prop := ∃ a c a2 c2, v = .agg #[.slice a d.writes.length c, .slice a2 d.marks.length c2] ∧ RdL Elt.wr S w (.slice a d.writes.length c) d.writes ∧ RdL Elt.int S w (.slice a2 d.marks.length c2) d.marks
def RdSp (S : Nat → Prop) (w : World) (v : Value) (x : Sp) : Prop := ∃ a c a2 c2, v = .agg #[.int .i64 x.table, .slice a x.lo.length c, .slice a2 x.hi.length c2, .bool x.isOpen] ∧ RdS S w (.slice a x.lo.length c) x.lo ∧ RdS S w (.slice a2 x.hi.length c2) x.hi ∧ W64 x.table
theorem RdWr.below {x : Wr} (h : RdWr S w v x) (hb : Below w.heap.size w w') : RdWr S w' v x := by
  obtain ⟨a, c, a2, c2, e, h1, h2, h3⟩ := h
  exact ⟨a, c, a2, c2, e, h1.below hb, h2.below hb, h3⟩
theorem RdWr.weak {x : Wr} (h : RdWr S w v x) (hs : ∀ k, S k → S' k) : RdWr S' w v x := by
  obtain ⟨a, c, a2, c2, e, h1, h2, h3⟩ := h
  exact ⟨a, c, a2, c2, e, h1.weak hs, h2.weak hs, h3⟩
theorem RdSp.below {x : Sp} (h : RdSp S w v x) (hb : Below w.heap.size w w') : RdSp S w' v x := by
  obtain ⟨a, c, a2, c2, e, h1, h2, h3⟩ := h
  exact ⟨a, c, a2, c2, e, h1.below hb, h2.below hb, h3⟩
end
set_option maxRecDepth 4000 in
theorem opens_wr : Opens Try.prog 59 Elt.wr := by
  intro H enc w base held fuel cs x h
  obtain ⟨y0, y1, y2, y3, n, _, hl, h0, h1, h2, h3⟩ := trod_struct4 Try.underlying59 h
  have hc : cs.length = 4 := hl.trans (by kernel_rfl)
  match cs, hc with
  | [u, v, r, s], _ =>
    obtain ⟨m, hm, _, hw⟩ := DataW.trod_int (by kernel_rfl : Try.prog.underlying 3 = some (.int .i64)) (h0 : DataW.trod enc Try.prog w base (fun _ => true) held n 3 [u] = some y0)
    obtain ⟨xs, v', hv, hR⟩ := Opens.bytes (P := Try.prog) (t := 55) (e := 5) (by kernel_rfl) (by kernel_rfl) (by kernel_rfl) (h1 : DataW.trod enc Try.prog w base (fun _ => true) held n 55 [v] = some y1)
    obtain ⟨g, hg, _⟩ := DataW.trod_bool (by kernel_rfl : Try.prog.underlying 4 = some .bool) (h2 : DataW.trod enc Try.prog w base (fun _ => true) held n 4 [r] = some y2)
    obtain ⟨xs2, v2, hv2, hR2⟩ := Opens.bytes (P := Try.prog) (t := 55) (e := 5) (by kernel_rfl) (by kernel_rfl) (by kernel_rfl) (h3 : DataW.trod enc Try.prog w base (fun _ => true) held n 55 [s] = some y3)
    cases hm; cases hg; cases hv; cases hv2
    exact ⟨⟨m, xs, g, xs2⟩, v, s, rfl, hR, hR2, w64w hw⟩
theorem opens_wrs : Opens Try.prog 25 (Elt.list Elt.wr) := Opens.list (by kernel_rfl) (by kernel_rfl) opens_wr
set_option maxRecDepth 4000 in
theorem open_sp {H : Type} {enc : TypeId × Value → H} {w : World} {base : Nat} {held : Bool} {fuel : Nat} {cs : Array Value} {x : DataW H × List MemPlace} (h : DataW.trod enc Try.prog w base (fun _ => true) held fuel 57 (Value.agg cs).cells.toList = some x) : ∃ d, RdSp (· < w.heap.size) w (.agg cs) d := by
  have e0 : (Value.agg cs).cells.toList = cs.toList := by simp [Value.cells]
  rw [e0] at h
  obtain ⟨y0, y1, y2, y3, n, _, hl, h0, h1, h2, h3⟩ := trod_struct4 Try.underlying57 h
  have hc : cs.toList.length = 4 := hl.trans (by kernel_rfl)
  obtain ⟨l⟩ := cs
  match l, hc with
  | [u, v, r, s], _ =>
    obtain ⟨m, hm, _, hw⟩ := DataW.trod_int (by kernel_rfl : Try.prog.underlying 3 = some (.int .i64)) (h0 : DataW.trod enc Try.prog w base (fun _ => true) held n 3 [u] = some y0)
    obtain ⟨xs, v', hv, hR⟩ := Opens.bytes (P := Try.prog) (t := 55) (e := 5) (by kernel_rfl) (by kernel_rfl) (by kernel_rfl) (h1 : DataW.trod enc Try.prog w base (fun _ => true) held n 55 [v] = some y1)
    obtain ⟨xs2, v2, hv2, hR2⟩ := Opens.bytes (P := Try.prog) (t := 55) (e := 5) (by kernel_rfl) (by kernel_rfl) (by kernel_rfl) (h2 : DataW.trod enc Try.prog w base (fun _ => true) held n 55 [r] = some y2)
    obtain ⟨g, hg, _⟩ := DataW.trod_bool (by kernel_rfl : Try.prog.underlying 4 = some .bool) (h3 : DataW.trod enc Try.prog w base (fun _ => true) held n 4 [s] = some y3)
    cases hm; cases hg; cases hv; cases hv2
    obtain ⟨a, c, rfl, _⟩ := hR.shape
    obtain ⟨a2, c2, rfl, _⟩ := hR2.shape
    exact ⟨⟨m, xs, xs2, g⟩, a, c, a2, c2, rfl, hR, hR2, w64w hw⟩
end Go.Proofs.Ytobelnedhlepaaa
namespace Go.Proofs.Ytobelnedhlepaaa
open Go.RowKit
theorem u8_tri (x y : UInt8) : x < y ∨ x = y ∨ y < x := by
  rcases Nat.lt_trichotomy x.toNat y.toNat with h | h | h
  · exact .inl (UInt8.lt_iff_toNat_lt.2 h)
  · exact .inr (.inl (UInt8.toNat_inj.1 h))
  · exact .inr (.inr (UInt8.lt_iff_toNat_lt.2 h))
theorem cmp_lt : ∀ (a b : List UInt8), decide (Lib.compareBytes a b < 0) = ltB a b
  | [], [] => rfl
  | [], _ :: _ => rfl
  | _ :: _, [] => rfl
  | x :: a, y :: b => by
    have ih := cmp_lt a b
    unfold Lib.compareBytes ltB Op.bytesLess
    unfold ltB at ih
    rcases u8_tri x y with h | h | h
    · simp [h]
    · subst h
      simp [UInt8.lt_irrefl, ih]
    · have h1 : ¬ x < y := UInt8.lt_asymm h
      have h2 : x ≠ y := fun e => by subst e; exact UInt8.lt_irrefl _ h
      simp [h, h1, h2]
theorem cmp_eq : ∀ (a b : List UInt8), (Lib.compareBytes a b == 0) = decide (a = b)
  | [], [] => rfl
  | [], _ :: _ => rfl
  | _ :: _, [] => rfl
  | x :: a, y :: b => by
    have ih := cmp_eq a b
    unfold Lib.compareBytes
    rcases u8_tri x y with h | h | h
    · have h2 : x ≠ y := fun e => by subst e; exact UInt8.lt_irrefl _ h
      simp [h, h2]
    · subst h
      simp [UInt8.lt_irrefl, ih]
    · have h1 : ¬ x < y := UInt8.lt_asymm h
      have h2 : x ≠ y := fun e => by subst e; exact UInt8.lt_irrefl _ h
      simp [h, h1, h2]
theorem cmp_ge (a b : List UInt8) : decide (0 ≤ Lib.compareBytes a b) = !ltB a b := by
  rw [← cmp_lt]
  by_cases h : Lib.compareBytes a b < 0
  · simp [h]
  · simp [h]; omega
theorem run_bytes {P : Program} {S : Nat → Prop} {w : World} {v : Value} {xs : List UInt8} (h : RdS S w v xs) : (Extern.Bytes.bytesOf v).run P w = .ok ⟨xs.toArray⟩ w := by
  rcases h with ⟨a, c, rfl, _, rfl⟩ | ⟨b, off, cap, rfl, _, _, _, hc⟩
  · cases a with
    | none => rfl
    | some p => simp [Extern.Bytes.bytesOf, Extern.Bytes.loadBytes]; rfl
  · have := Lib.run_loadBytesX (P := P) (w := w) (xs.map fun b => (b.toNat : Int)) ⟨b, off, none⟩ .empty (fun j x hj => by
      rw [Addr.add_lit]
      refine hc j _ ?_
      rw [List.getElem?_map] at hj
      cases he : xs[j]? with
      | none => rw [he] at hj; cases hj
      | some y =>
        rw [he] at hj
        simp only [Option.map_some, Option.some.injEq] at hj
        subst hj
        simp [bv, he])
    rw [List.length_map] at this
    simp only [Extern.Bytes.bytesOf, this]
    have e : Lib.bytesOf (xs.map fun b => (b.toNat : Int)) = xs := by
      unfold Lib.bytesOf
      rw [List.map_map]
      exact (List.map_congr_left fun b _ => by simp).trans (List.map_id _)
    rw [e]
    show Result.ok (⟨#[] ++ xs.toArray⟩ : ByteArray) w = _
    rw [Array.empty_append]
theorem run_compare {P : Program} {S S2 : Nat → Prop} {w : World} {va vb : Value} {xs ys : List UInt8} (hx : RdS S w va xs) (hy : RdS S2 w vb ys) :
    (Extern.BytealgCompare.compare #[va, vb]).run P w = .ok (.int .i64 (Lib.compareBytes xs ys)) w := by
  change Sem.run P (do pure (goInt (Extern.BytealgCompare.cmp (← Extern.Bytes.bytesOf va) (← Extern.Bytes.bytesOf vb)))) w = _
  simp only [Sem.run_bind, Sem.run_pure, run_bytes hx, run_bytes hy, Result.andThen]
  rw [Lib.cmp_eq]
  rfl
set_option maxRecDepth 100000 in
set_option maxHeartbeats 1000000 in
theorem compare_any (w : World) {S S2 : Nat → Prop} {a a2 : Option Addr} {n c n2 c2 : Nat} {xs ys : List UInt8} (hx : RdS S w (.slice a n c) xs) (hy : RdS S2 w (.slice a2 n2 c2) ys) :
    Calls Try.prog 56 #[.slice a n c, .slice a2 n2 c2] w fun e w' => e = .returned (.int .i64 (Lib.compareBytes xs ys)) ∧ w = w' := by
  have hc : (callFunc 66 #[.slice a n c, .slice a2 n2 c2]).run Try.prog w = .ok (.value (.int .i64 (Lib.compareBytes xs ys))) w := by
    rw [run_callFunc_extern Try.func66 (by kernel_rfl) (by kernel_rfl) (by kernel_rfl) (e := Extern.BytealgCompare.compare) (by kernel_rfl), run_compare hx hy]
    rfl
  go_enter Try.func56, Try.ntmps56
  go_wp2_with fail
  go_ret
  exact ⟨rfl, rfl⟩
end Go.Proofs.Ytobelnedhlepaaa
namespace Go.Proofs.Ytobelnedhlepaaa
def mayS (x : Sp) : Prop := 0 ≤ x.table ∧ x.table ≤ 3 ∧ x.lo.length ≤ 17 ∧ x.hi.length ≤ 17 ∧ (x.isOpen = true → x.hi = [])
instance (x : Sp) : Decidable (mayS x) := by unfold mayS; exact inferInstance
def inT (x : Sp) (t : Int) (k : List UInt8) : Bool := decide (x.table = t) && inS x k
def pointS (t : Int) (k : List UInt8) : Sp := ⟨t, k, k ++ [0], false⟩
def shortS (x : Sp) : Prop := x.lo.length ≤ 100 ∧ x.hi.length ≤ 100
instance (x : Sp) : Decidable (shortS x) := by unfold shortS; exact inferInstance
def fewS (l : List Sp) : Prop := l.length ≤ 100 ∧ ∀ x ∈ l, x.lo.length ≤ 100 ∧ x.hi.length ≤ 100
instance (l : List Sp) : Decidable (fewS l) := by unfold fewS; exact inferInstance
def smS (x : Sp) : Prop := x.lo.length ≤ 1000000 ∧ x.hi.length ≤ 1000000
def smL (l : List Sp) : Prop := l.length ≤ 1000000 ∧ ∀ x ∈ l, smS x
def okA (l : List Sp) (x : Sp) (m : Int) : Prop := mayS x ∧ (∀ y ∈ l, mayS y) ∧ 1 ≤ m ∧ m ≤ 100
instance (l : List Sp) (x : Sp) (m : Int) : Decidable (okA l x m) := by unfold okA; exact inferInstance
end Go.Proofs.Ytobelnedhlepaaa
namespace Go.Proofs.Ytobelnedhlepaaa
open Go.ChangeShapes Go.WideShapes Go.ChangeAt Go.RowKit Go.Deep Go.Joins
def spC (x : Sp) (k v : Value) : List Value := [.int .i64 x.table, k, v, .bool x.isOpen]
def Elt.sp : Elt Sp where
  size := 4
  pos := by omega
  R S w x vs := ∃ k v, vs = spC x k v ∧ RdS S w k x.lo ∧ RdS S w v x.hi ∧ W64 x.table
  len := by rintro _ _ _ _ ⟨_, _, rfl, _⟩; rfl
  keep := by rintro _ _ _ _ _ ⟨k, v, rfl, h, h1, h2⟩ hk; exact ⟨k, v, rfl, h.keep hk, h1.keep hk, h2⟩
  weak := by rintro _ _ _ _ _ ⟨k, v, rfl, h, h1, h2⟩ hk; exact ⟨k, v, rfl, h.weak hk, h1.weak hk, h2⟩
  fit := by rintro _ _ _ _ ⟨k, v, rfl, h, h1, h2⟩; exact ⟨k, v, rfl, h.fit, h1.fit, h2⟩
  one := by
    rintro _ _ _ _ ⟨k, v, rfl, h, h1, _⟩ u hu
    have h3 := h.one
    have h4 := h1.one
    simp only [spC, List.mem_cons, List.not_mem_nil, or_false] at hu
    rcases hu with rfl | rfl | rfl | rfl
    · rfl
    · exact h3
    · exact h4
    · rfl
theorem spP : LoP Try.prog 22 57 4 := ⟨⟨by kernel_rfl, by kernel_rfl⟩, .agg #[.int .i64 0, .slice none 0 0, .slice none 0 0, .bool false], 64, by kernel_rfl, rfl, by omega⟩
theorem spS : StP Try.prog 57 4 := StP.of (by kernel_rfl)
section
variable {S S' : Nat → Prop} {w w' : World} {v : Value}
theorem RdL.sp {a : Option Addr} {n c : Nat} {l : List Sp} (h : RdL Elt.sp S w (.slice a n c) l) (r : Nat) (hr : r < l.length) :
    ∃ b off A C A2 C2, a = some ⟨b, off, none⟩ ∧ S b ∧ w.cell? ⟨b, off + r * 4, none⟩ = some (.int .i64 l[r].table) ∧ w.cell? ⟨b, off + r * 4 + 1, none⟩ = some (.slice A l[r].lo.length C) ∧ w.cell? ⟨b, off + r * 4 + 2, none⟩ = some (.slice A2 l[r].hi.length C2) ∧ w.cell? ⟨b, off + r * 4 + 3, none⟩ = some (.bool l[r].isOpen) ∧
      RdS S w (.slice A l[r].lo.length C) l[r].lo ∧ RdS S w (.slice A2 l[r].hi.length C2) l[r].hi ∧ W64 l[r].table := by
  obtain ⟨b, off, vs, rfl, hb, ⟨k, u, rfl, hk, hu, hi⟩, hc⟩ := h.at r hr
  obtain ⟨A, C, rfl, _, _⟩ := hk.shape
  obtain ⟨A2, C2, rfl, _, _⟩ := hu.shape
  exact ⟨b, off, A, C, A2, C2, rfl, hb, hc 0 _ rfl, hc 1 _ rfl, hc 2 _ rfl, hc 3 _ rfl, hk, hu, hi⟩
end
set_option maxRecDepth 4000 in
theorem opens_sp : Opens Try.prog 57 Elt.sp := by
  intro H enc w base held fuel cs x h
  obtain ⟨y0, y1, y2, y3, n, _, hl, h0, h1, h2, h3⟩ := trod_struct4 Try.underlying57 h
  have hc : cs.length = 4 := hl.trans (by kernel_rfl)
  match cs, hc with
  | [u, v, r, s], _ =>
    obtain ⟨m, hm, _, hw⟩ := DataW.trod_int (by kernel_rfl : Try.prog.underlying 3 = some (.int .i64)) (h0 : DataW.trod enc Try.prog w base (fun _ => true) held n 3 [u] = some y0)
    obtain ⟨xs, v', hv, hR⟩ := Opens.bytes (P := Try.prog) (t := 55) (e := 5) (by kernel_rfl) (by kernel_rfl) (by kernel_rfl) (h1 : DataW.trod enc Try.prog w base (fun _ => true) held n 55 [v] = some y1)
    obtain ⟨xs2, v2, hv2, hR2⟩ := Opens.bytes (P := Try.prog) (t := 55) (e := 5) (by kernel_rfl) (by kernel_rfl) (by kernel_rfl) (h2 : DataW.trod enc Try.prog w base (fun _ => true) held n 55 [r] = some y2)
    obtain ⟨g, hg, _⟩ := DataW.trod_bool (by kernel_rfl : Try.prog.underlying 4 = some .bool) (h3 : DataW.trod enc Try.prog w base (fun _ => true) held n 4 [s] = some y3)
    cases hm; cases hg; cases hv; cases hv2
    exact ⟨⟨m, xs, xs2, g⟩, v, r, rfl, hR, hR2, w64w hw⟩
theorem opens_sps : Opens Try.prog 22 (Elt.list Elt.sp) := Opens.list (by kernel_rfl) (by kernel_rfl) opens_sp
def SpEnd (w : World) (x : Sp) (e : Ending) (w' : World) : Prop := ∃ v, e = .returned v ∧ RdSp (fun k => w.heap.size ≤ k ∧ k < w'.heap.size) w' v x ∧ Below w.heap.size w w'
def SlEnd (w : World) (l : List Sp) (e : Ending) (w' : World) : Prop := ∃ a c, e = .returned (.slice a l.length c) ∧ OwnL Elt.sp 57 w.heap.size w.heap.size w' (.slice a l.length c) l ∧ Below w.heap.size w w'
theorem spBox (w : World) (t : TypeId) (us : List Value) : ∃ W, W = w.alloc (.cells us.toArray t) ∧ Below w.heap.size w W ∧ BoxN W w.heap.size t us ∧ W.heap.size = w.heap.size + 1 :=
  ⟨_, rfl, (Below.refl _ _).alloc (Nat.le_refl _) _, BoxN.new _ _ _, by simp only [World.alloc, Array.size_push]⟩
theorem spBoxes2 (w : World) (t t2 : TypeId) (us vs : List Value) : ∃ W, W = (w.alloc (.cells us.toArray t)).alloc (.cells vs.toArray t2) ∧ Below w.heap.size w W ∧ BoxN W w.heap.size t us ∧ BoxN W (w.heap.size + 1) t2 vs ∧ W.heap.size = w.heap.size + 1 + 1 := by
  have h1 : Below w.heap.size w (w.alloc (.cells us.toArray t)) := (Below.refl _ _).alloc (Nat.le_refl _) _
  have hs : (w.alloc (.cells us.toArray t)).heap.size = w.heap.size + 1 := by simp only [World.alloc, Array.size_push]
  have hb := BoxN.new (w.alloc (.cells us.toArray t)) t2 vs
  rw [hs] at hb
  exact ⟨_, rfl, h1.alloc h1.size _, (BoxN.new w t us).below ((Below.refl _ _).alloc (Nat.le_refl _) _) (by rw [hs]; omega), hb, by simp only [World.alloc, Array.size_push]⟩
end Go.Proofs.Ytobelnedhlepaaa
namespace Go.Proofs.Ytobelnedhlepaaa
structure Ps where
  snap : Int
  stamp : Int
  held : Bool
  reads : List Sp
  writes : List Wr
  out : Bool
deriving DecidableEq
structure Lv where
  snap : Int
  reads : List Sp
deriving DecidableEq
def hitL (l : List Sp) (ws : List Wr) : Bool := ws.any fun x => l.any fun s => inT s x.table x.key
def eqW (x y : Wr) : Bool := decide (x.table = y.table) && decide (x.key = y.key)
def sameW (a b : List Wr) : Bool := a.any fun x => b.any fun y => eqW x y
def metP (lv : List Lv) (p : Ps) : Bool := lv.any fun x => decide (x.snap < p.stamp)
def keepP (l : List Ps) (lv : List Lv) : List Ps := l.filter (metP lv)
def smP (p : Ps) : Prop := smL p.reads ∧ p.writes.length ≤ 1000000 ∧ ∀ x ∈ p.writes, x.key.length ≤ 1000000 ∧ x.val.length ≤ 1000000
def smPs (l : List Ps) : Prop := l.length ≤ 1000000 ∧ ∀ p ∈ l, smP p
def leastL : Lv → List Lv → Lv
  | m, [] => m
  | m, y :: l => leastL (if y.snap < m.snap then y else m) l
theorem leastL_iff (t : Int) : ∀ (l : List Lv) (m : Lv), (leastL m l).snap < t ↔ m.snap < t ∨ ∃ x ∈ l, x.snap < t
  | [], m => by simp [leastL]
  | y :: l, m => by
    rw [leastL, leastL_iff t l]
    by_cases h : y.snap < m.snap
    · rw [if_pos h]
      simp only [List.mem_cons, exists_eq_or_imp]
      constructor
      · rintro (h1 | h1)
        · exact .inr (.inl h1)
        · exact .inr (.inr h1)
      · rintro (h1 | h1 | h1)
        · exact .inl (by omega)
        · exact .inl h1
        · exact .inr h1
    · rw [if_neg h]
      simp only [List.mem_cons, exists_eq_or_imp]
      constructor
      · rintro (h1 | h1)
        · exact .inl h1
        · exact .inr (.inr h1)
      · rintro (h1 | h1 | h1)
        · exact .inl h1
        · exact .inl (by omega)
        · exact .inr h1
theorem leastL_take {m : Lv} : ∀ {l : List Lv} {k : Nat} (h : k < l.length), leastL m (l.take (k + 1)) = (if l[k].snap < (leastL m (l.take k)).snap then l[k] else leastL m (l.take k)) := by
  intro l
  induction l generalizing m with
  | nil => intro k h; simp at h
  | cons y l ih =>
    intro k h
    cases k with
    | zero => simp [leastL]
    | succ k =>
      rw [List.take_succ_cons, List.take_succ_cons, leastL, leastL]
      simpa using ih (m := if y.snap < m.snap then y else m) (by simpa using h)
theorem metP_least (x : Lv) (l : List Lv) (p : Ps) : metP (x :: l) p = decide ((leastL x l).snap < p.stamp) := by
  rw [Bool.eq_iff_iff, decide_eq_true_iff, leastL_iff]
  unfold metP
  simp
theorem keepP_nil (l : List Ps) : keepP l [] = [] := by
  unfold keepP metP
  simp
theorem keepP_snoc {l : List Ps} {lv : List Lv} {k : Nat} (h : k < l.length) : keepP (l.take (k + 1)) lv = keepP (l.take k) lv ++ (if metP lv l[k] = true then [l[k]] else []) := by
  unfold keepP
  rw [List.take_succ_eq_append_getElem h, List.filter_append]
  congr 1
  simp only [List.filter_cons, List.filter_nil]
theorem keepP_len (l : List Ps) (lv : List Lv) : (keepP l lv).length ≤ l.length := List.length_filter_le _ _
theorem hitL_ref (l : List Sp) (ws : List Wr) : hitL l ws = l.any fun s => ws.any fun x => inT s x.table x.key := by
  unfold hitL
  rw [Bool.eq_iff_iff, List.any_eq_true, List.any_eq_true]
  constructor
  · rintro ⟨x, hx, h⟩
    obtain ⟨s, hs, h2⟩ := List.any_eq_true.1 h
    exact ⟨s, hs, List.any_eq_true.2 ⟨x, hx, h2⟩⟩
  · rintro ⟨s, hs, h⟩
    obtain ⟨x, hx, h2⟩ := List.any_eq_true.1 h
    exact ⟨x, hx, List.any_eq_true.2 ⟨s, hs, h2⟩⟩
def fewPs (l : List Ps) (lv : List Lv) : Prop := l.length ≤ 30 ∧ lv.length ≤ 30 ∧ (∀ p ∈ l, fewS p.reads ∧ (p.writes.length ≤ 30 ∧ ∀ x ∈ p.writes, x.key.length ≤ 100 ∧ x.val.length ≤ 100) ∧ p.reads.length ≤ 30) ∧ ∀ x ∈ lv, fewS x.reads ∧ x.reads.length ≤ 30
instance (l : List Ps) (lv : List Lv) : Decidable (fewPs l lv) := by unfold fewPs; exact inferInstance
theorem few_sm {l : List Ps} {lv : List Lv} (h : fewPs l lv) : smPs l :=
  ⟨by have := h.1; omega, fun p hp => by
    obtain ⟨h1, h2, h3⟩ := h.2.2.1 p hp
    exact ⟨⟨by have := h1.1; omega, fun y hy => by have := h1.2 y hy; exact ⟨by omega, by omega⟩⟩, by have := h2.1; omega, fun x hx => by have := h2.2 x hx; exact ⟨by omega, by omega⟩⟩⟩
end Go.Proofs.Ytobelnedhlepaaa
namespace Go.Proofs.Ytobelnedhlepaaa
open Go.ChangeShapes Go.WideShapes Go.ChangeAt Go.RowKit Go.Deep Go.Joins
def psC (x : Ps) (k v : Value) : List Value := [.int .i64 x.snap, .int .i64 x.stamp, .bool x.held, k, v, .bool x.out]
def Elt.ps : Elt Ps where
  size := 6
  pos := by omega
  R S w x vs := ∃ k v, vs = psC x k v ∧ RdL Elt.sp S w k x.reads ∧ RdL Elt.wr S w v x.writes ∧ W64 x.snap ∧ W64 x.stamp
  len := by rintro _ _ _ _ ⟨_, _, rfl, _⟩; rfl
  keep := by rintro _ _ _ _ _ ⟨k, v, rfl, h, h1, h2⟩ hk; exact ⟨k, v, rfl, h.keep hk, h1.keep hk, h2⟩
  weak := by rintro _ _ _ _ _ ⟨k, v, rfl, h, h1, h2⟩ hk; exact ⟨k, v, rfl, h.weak hk, h1.weak hk, h2⟩
  fit := by rintro _ _ _ _ ⟨k, v, rfl, h, h1, h2⟩; exact ⟨k, v, rfl, h.fit, h1.fit, h2⟩
  one := by
    rintro _ _ _ _ ⟨k, v, rfl, h, h1, _⟩ u hu
    obtain ⟨_, _, rfl, _⟩ := h.shape
    obtain ⟨_, _, rfl, _⟩ := h1.shape
    simp only [psC, List.mem_cons, List.not_mem_nil, or_false] at hu
    rcases hu with rfl | rfl | rfl | rfl | rfl | rfl <;> rfl
def Elt.lv : Elt Lv where
  size := 2
  pos := by omega
  R S w x vs := ∃ k, vs = [.int .i64 x.snap, k] ∧ RdL Elt.sp S w k x.reads ∧ W64 x.snap
  len := by rintro _ _ _ _ ⟨_, rfl, _⟩; rfl
  keep := by rintro _ _ _ _ _ ⟨k, rfl, h, h1⟩ hk; exact ⟨k, rfl, h.keep hk, h1⟩
  weak := by rintro _ _ _ _ _ ⟨k, rfl, h, h1⟩ hk; exact ⟨k, rfl, h.weak hk, h1⟩
  fit := by rintro _ _ _ _ ⟨k, rfl, h, h1⟩; exact ⟨k, rfl, h.fit, h1⟩
  one := by
    rintro _ _ _ _ ⟨k, rfl, h, _⟩ u hu
    obtain ⟨_, _, rfl, _⟩ := h.shape
    simp only [List.mem_cons, List.not_mem_nil, or_false] at hu
    rcases hu with rfl | rfl <;> rfl
theorem psP : LoP Try.prog 26 50 6 := ⟨⟨by kernel_rfl, by kernel_rfl⟩, .agg #[.int .i64 0, .int .i64 0, .bool false, .slice none 0 0, .slice none 0 0, .bool false], 80, by kernel_rfl, rfl, by omega⟩
theorem psS : StP Try.prog 50 6 := StP.of (by kernel_rfl)
theorem lvP : LoP Try.prog 27 24 2 := ⟨⟨by kernel_rfl, by kernel_rfl⟩, .agg #[.int .i64 0, .slice none 0 0], 32, by kernel_rfl, rfl, by omega⟩
theorem lvS : StP Try.prog 24 2 := StP.of (by kernel_rfl)
section
variable {S S' : Nat → Prop} {w w' : World} {v : Value}
theorem RdL.ps {a : Option Addr} {n c : Nat} {l : List Ps} (h : RdL Elt.ps S w (.slice a n c) l) (r : Nat) (hr : r < l.length) :
    ∃ b off A C A2 C2, a = some ⟨b, off, none⟩ ∧ S b ∧ (w.cell? ⟨b, off + r * 6, none⟩ = some (.int .i64 l[r].snap) ∧ w.cell? ⟨b, off + r * 6 + 1, none⟩ = some (.int .i64 l[r].stamp) ∧ w.cell? ⟨b, off + r * 6 + 2, none⟩ = some (.bool l[r].held) ∧ w.cell? ⟨b, off + r * 6 + 3, none⟩ = some (.slice A l[r].reads.length C) ∧ w.cell? ⟨b, off + r * 6 + 4, none⟩ = some (.slice A2 l[r].writes.length C2) ∧ w.cell? ⟨b, off + r * 6 + 5, none⟩ = some (.bool l[r].out)) ∧
      RdL Elt.sp S w (.slice A l[r].reads.length C) l[r].reads ∧ RdL Elt.wr S w (.slice A2 l[r].writes.length C2) l[r].writes ∧ W64 l[r].snap ∧ W64 l[r].stamp := by
  obtain ⟨b, off, vs, rfl, hb, ⟨k, u, rfl, hk, hu, hi⟩, hc⟩ := h.at r hr
  obtain ⟨A, C, rfl, _, _⟩ := hk.shape
  obtain ⟨A2, C2, rfl, _, _⟩ := hu.shape
  exact ⟨b, off, A, C, A2, C2, rfl, hb, ⟨hc 0 _ rfl, hc 1 _ rfl, hc 2 _ rfl, hc 3 _ rfl, hc 4 _ rfl, hc 5 _ rfl⟩, hk, hu, hi⟩
theorem RdL.lv {a : Option Addr} {n c : Nat} {l : List Lv} (h : RdL Elt.lv S w (.slice a n c) l) (r : Nat) (hr : r < l.length) :
    ∃ b off A C, a = some ⟨b, off, none⟩ ∧ S b ∧ w.cell? ⟨b, off + r * 2, none⟩ = some (.int .i64 l[r].snap) ∧ w.cell? ⟨b, off + r * 2 + 1, none⟩ = some (.slice A l[r].reads.length C) ∧ RdL Elt.sp S w (.slice A l[r].reads.length C) l[r].reads ∧ W64 l[r].snap := by
  obtain ⟨b, off, vs, rfl, hb, ⟨k, rfl, hk, hi⟩, hc⟩ := h.at r hr
  obtain ⟨A, C, rfl, _, _⟩ := hk.shape
  exact ⟨b, off, A, C, rfl, hb, hc 0 _ rfl, hc 1 _ rfl, hk, hi⟩
def RdPs (S : Nat → Prop) (w : World) (v : Value) (x : Ps) : Prop := ∃ a c a2 c2, v = .agg #[.int .i64 x.snap, .int .i64 x.stamp, .bool x.held, .slice a x.reads.length c, .slice a2 x.writes.length c2, .bool x.out] ∧ RdL Elt.sp S w (.slice a x.reads.length c) x.reads ∧ RdL Elt.wr S w (.slice a2 x.writes.length c2) x.writes ∧ W64 x.snap ∧ W64 x.stamp
def RdLv (S : Nat → Prop) (w : World) (v : Value) (x : Lv) : Prop := ∃ a c, v = .agg #[.int .i64 x.snap, .slice a x.reads.length c] ∧ RdL Elt.sp S w (.slice a x.reads.length c) x.reads ∧ W64 x.snap
theorem RdPs.below {x : Ps} (h : RdPs S w v x) (hb : Below w.heap.size w w') : RdPs S w' v x := by
  obtain ⟨a, c, a2, c2, e, h1, h2, h3⟩ := h
  exact ⟨a, c, a2, c2, e, h1.below hb, h2.below hb, h3⟩
theorem RdPs.weak {x : Ps} (h : RdPs S w v x) (hs : ∀ k, S k → S' k) : RdPs S' w v x := by
  obtain ⟨a, c, a2, c2, e, h1, h2, h3⟩ := h
  exact ⟨a, c, a2, c2, e, h1.weak hs, h2.weak hs, h3⟩
theorem RdPs.keep {x : Ps} (h : RdPs S w v x) (hk : ∀ k, S k → w'.heap[k]? = w.heap[k]?) : RdPs S w' v x := by
  obtain ⟨a, c, a2, c2, e, h1, h2, h3⟩ := h
  exact ⟨a, c, a2, c2, e, h1.keep hk, h2.keep hk, h3⟩
theorem RdPs.fit {x : Ps} (h : RdPs S w v x) : RdPs (fun k => S k ∧ k < w.heap.size) w v x := by
  obtain ⟨a, c, a2, c2, e, h1, h2, h3⟩ := h
  exact ⟨a, c, a2, c2, e, h1.fit, h2.fit, h3⟩
theorem RdPs.R {x : Ps} (h : RdPs S w v x) : ∃ us : List Value, v = .agg us.toArray ∧ Elt.ps.R S w x us ∧ us.length = 6 := by
  obtain ⟨a, c, a2, c2, rfl, h1, h2, h3⟩ := h
  exact ⟨_, rfl, ⟨_, _, rfl, h1, h2, h3⟩, rfl⟩
end
section
variable {P : Program} {H : Type} {enc : TypeId × Value → H} {w : World} {base : Nat} {spare : Nat → Bool} {held : Bool}
theorem trod_struct6 {t : TypeId} {f0 f1 f2 f3 f4 f5 : Field} {fuel : Nat} {cs : List Value} {x : DataW H × List MemPlace} (ht : P.underlying t = some (.struct #[f0, f1, f2, f3, f4, f5])) (h : DataW.trod enc P w base spare held fuel t cs = some x) :
    ∃ y0 y1 y2 y3 y4 y5 n, cs.length = P.cellsOf t ∧ DataW.trod enc P w base spare held n f0.type ((cs.drop f0.offset).take (P.cellsOf f0.type)) = some y0 ∧ DataW.trod enc P w base spare held n f1.type ((cs.drop f1.offset).take (P.cellsOf f1.type)) = some y1 ∧ DataW.trod enc P w base spare held n f2.type ((cs.drop f2.offset).take (P.cellsOf f2.type)) = some y2 ∧
      DataW.trod enc P w base spare held n f3.type ((cs.drop f3.offset).take (P.cellsOf f3.type)) = some y3 ∧ DataW.trod enc P w base spare held n f4.type ((cs.drop f4.offset).take (P.cellsOf f4.type)) = some y4 ∧ DataW.trod enc P w base spare held n f5.type ((cs.drop f5.offset).take (P.cellsOf f5.type)) = some y5 := by
  obtain ⟨xs, n, _, rfl, hl, hlen, hf⟩ := DataW.trod_struct ht h
  match xs, hlen with
  | [y0, y1, y2, y3, y4, y5], _ => exact ⟨y0, y1, y2, y3, y4, y5, n, hl, by simpa using hf 0 f0 rfl, by simpa using hf 1 f1 rfl, by simpa using hf 2 f2 rfl, by simpa using hf 3 f3 rfl, by simpa using hf 4 f4 rfl, by simpa using hf 5 f5 rfl⟩
end
set_option maxRecDepth 4000 in
theorem opens_ps : Opens Try.prog 50 Elt.ps := by
  intro H enc w base held fuel cs x h
  obtain ⟨y0, y1, y2, y3, y4, y5, n, hl, h0, h1, h2, h3, h4, h5⟩ := trod_struct6 Try.underlying50 h
  have hc : cs.length = 6 := hl.trans (by kernel_rfl)
  match cs, hc with
  | [c0, c1, c2, c3, c4, c5], _ =>
    obtain ⟨m, hm, _, hw⟩ := DataW.trod_int (by kernel_rfl : Try.prog.underlying 3 = some (.int .i64)) (h0 : DataW.trod enc Try.prog w base (fun _ => true) held n 3 [c0] = some y0)
    obtain ⟨m2, hm2, _, hw2⟩ := DataW.trod_int (by kernel_rfl : Try.prog.underlying 3 = some (.int .i64)) (h1 : DataW.trod enc Try.prog w base (fun _ => true) held n 3 [c1] = some y1)
    obtain ⟨g, hg, _⟩ := DataW.trod_bool (by kernel_rfl : Try.prog.underlying 4 = some .bool) (h2 : DataW.trod enc Try.prog w base (fun _ => true) held n 4 [c2] = some y2)
    obtain ⟨ws, k, hk, hR⟩ := opens_sps (h3 : DataW.trod enc Try.prog w base (fun _ => true) held n 22 [c3] = some y3)
    obtain ⟨ms, k2, hk2, hR2⟩ := opens_wrs (h4 : DataW.trod enc Try.prog w base (fun _ => true) held n 25 [c4] = some y4)
    obtain ⟨g2, hg2, _⟩ := DataW.trod_bool (by kernel_rfl : Try.prog.underlying 4 = some .bool) (h5 : DataW.trod enc Try.prog w base (fun _ => true) held n 4 [c5] = some y5)
    cases hm; cases hm2; cases hg; cases hg2; cases hk; cases hk2
    exact ⟨⟨m, m2, g, ws, ms, g2⟩, c3, c4, rfl, hR, hR2, w64w hw, w64w hw2⟩
theorem opens_pss : Opens Try.prog 26 (Elt.list Elt.ps) := Opens.list (by kernel_rfl) (by kernel_rfl) opens_ps
set_option maxRecDepth 4000 in
theorem opens_lv : Opens Try.prog 24 Elt.lv := by
  intro H enc w base held fuel cs x h
  obtain ⟨y0, y1, n, _, hl, h0, h1⟩ := trod_struct2 Try.underlying24 h
  have hc : cs.length = 2 := hl.trans (by kernel_rfl)
  match cs, hc with
  | [c0, c1], _ =>
    obtain ⟨m, hm, _, hw⟩ := DataW.trod_int (by kernel_rfl : Try.prog.underlying 3 = some (.int .i64)) (h0 : DataW.trod enc Try.prog w base (fun _ => true) held n 3 [c0] = some y0)
    obtain ⟨ws, k, hk, hR⟩ := opens_sps (h1 : DataW.trod enc Try.prog w base (fun _ => true) held n 22 [c1] = some y1)
    cases hm; cases hk
    exact ⟨⟨m, ws⟩, c1, rfl, hR, w64w hw⟩
theorem opens_lvs : Opens Try.prog 27 (Elt.list Elt.lv) := Opens.list (by kernel_rfl) (by kernel_rfl) opens_lv
def PsEnd (w : World) (l : List Ps) (e : Ending) (w' : World) : Prop := ∃ a c, e = .returned (.slice a l.length c) ∧ OwnL Elt.ps 50 w.heap.size w.heap.size w' (.slice a l.length c) l ∧ Below w.heap.size w w'
def P1End (w : World) (x : Ps) (e : Ending) (w' : World) : Prop := ∃ v, e = .returned v ∧ RdPs (fun k => w.heap.size ≤ k ∧ k < w'.heap.size) w' v x ∧ Below w.heap.size w w'
section
variable {P : Program} {t : TypeId} {n : Nat} {o : Oper} {a : Act} {K : Act → World → Prop} {Q : Exit → Act → World → Prop} {w : World}
theorem wp_loadN {us : List Value} (hP : StP P t us.length) {x : Operand} {b off : Nat} (ho : o.op = .load t x) (hx : a.eval x = .pointer (some ⟨b, off, none⟩)) (hc : ∀ j u, us[j]? = some u → w.cell? ⟨b, off + j, none⟩ = some u) (h : K (a.put o.dst (.agg us.toArray)) w) : o.wp P a w K Q := by
  obtain ⟨fs, hu, _, _⟩ := hP.hu
  have hr := run_loadCells_list (P := P) (w := w) ⟨b, off, none⟩ us (fun j v hj => by rw [Addr.add_lit]; exact hc j v hj)
  have hr' : (loadCellsFrom ⟨b, off, none⟩ 0 us.length #[]).run P w = .ok us.toArray w := hr
  clear hr
  refine wp_run' ?_ h
  simp only [execOp, ho, hx]
  simp [Instr.loadAt, loadVar, isAgg, run_underlying hu, run_sizeOf' hP.hs, hr', go_sem]
theorem cells6 {b off : Nat} {u0 u1 u2 u3 u4 u5 : Value} (h : w.cell? ⟨b, off, none⟩ = some u0 ∧ w.cell? ⟨b, off + 1, none⟩ = some u1 ∧ w.cell? ⟨b, off + 2, none⟩ = some u2 ∧ w.cell? ⟨b, off + 3, none⟩ = some u3 ∧ w.cell? ⟨b, off + 4, none⟩ = some u4 ∧ w.cell? ⟨b, off + 5, none⟩ = some u5) :
    ∀ j u, [u0, u1, u2, u3, u4, u5][j]? = some u → w.cell? ⟨b, off + j, none⟩ = some u := by
  obtain ⟨h0, h1, h2, h3, h4, h5⟩ := h
  intro j u hj
  match j, hj with
  | 0, hj => cases hj; exact h0
  | 1, hj => cases hj; exact h1
  | 2, hj => cases hj; exact h2
  | 3, hj => cases hj; exact h3
  | 4, hj => cases hj; exact h4
  | 5, hj => cases hj; exact h5
end
end Go.Proofs.Ytobelnedhlepaaa
namespace Go.Proofs.Ytobelnedhlepaaa
open Go.ChangeShapes Go.WideShapes Go.ChangeAt Go.RowKit Go.Deep Go.Joins
theorem open_lv {H : Type} {enc : TypeId × Value → H} {w : World} {base : Nat} {held : Bool} {fuel : Nat} {cs : Array Value} {x : DataW H × List MemPlace} (h : DataW.trod enc Try.prog w base (fun _ => true) held fuel 24 (Value.agg cs).cells.toList = some x) : ∃ n, RdLv (· < w.heap.size) w (.agg cs) n := by
  have e0 : (Value.agg cs).cells.toList = cs.toList := by simp [Value.cells]
  rw [e0] at h
  obtain ⟨y0, y1, n, _, hl, h0, h1⟩ := trod_struct2 Try.underlying24 h
  have hc : cs.toList.length = 2 := hl.trans (by kernel_rfl)
  obtain ⟨l⟩ := cs
  match l, hc with
  | [c0, c1], _ =>
    obtain ⟨m, hm, _, hw⟩ := DataW.trod_int (by kernel_rfl : Try.prog.underlying 3 = some (.int .i64)) (h0 : DataW.trod enc Try.prog w base (fun _ => true) held n 3 [c0] = some y0)
    obtain ⟨ws, k, hk, hR⟩ := opens_sps (h1 : DataW.trod enc Try.prog w base (fun _ => true) held n 22 [c1] = some y1)
    cases hm; cases hk
    obtain ⟨A, C, rfl, _, _⟩ := hR.shape
    exact ⟨⟨m, ws⟩, A, C, rfl, hR.fit.weak fun _ h => h.2, w64w hw⟩
end Go.Proofs.Ytobelnedhlepaaa
namespace Go.Proofs.Ytobelnedhlepaaa
open Go.RowKit
theorem grown_trans {A B C : World} {r : Option Nat} (h : A.grownBy B r) (k : B.grownBy C r) : A.grownBy C r :=
  ⟨k.os.trans h.os, k.tape.trans h.tape, k.output.trans h.output, Nat.le_trans h.size k.size, fun i hi hn => (k.block i (Nat.lt_of_lt_of_le hi h.size) hn).trans (h.block i hi hn)⟩
theorem grown_below' {A B : World} (h : Below A.heap.size A B) (r : Option Nat) : A.grownBy B r := ⟨h.os, h.tape, h.output, h.size, fun k hk _ => h.block k hk⟩
theorem grown_below2 {A B : World} {n : Nat} (h : Below n A B) (hn : n = A.heap.size) (r : Option Nat) : A.grownBy B r := by subst hn; exact grown_below' h r
end Go.Proofs.Ytobelnedhlepaaa
namespace Go.Proofs.Ytobelnedhlepaaa
open Go.RowKit
def hangs (ops : Array Oper) (j i : Nat) : Bool := (ops[j]?).any fun o => o.after.any fun e => e.on == i && Region.binds .any e
theorem hangs_get {ops : Array Oper} {j i : Nat} (h : hangs ops j i = true) : ∃ o, ops[j]? = some o ∧ ∃ e ∈ o.after, e.on = i ∧ Region.binds .any e = true := by
  unfold hangs at h
  cases ho : ops[j]? with
  | none => rw [ho] at h; simp at h
  | some o =>
    rw [ho] at h
    simp only [Option.any_some, Array.any_eq_true', Bool.and_eq_true, beq_iff_eq] at h
    exact ⟨o, rfl, h⟩
def incB : List Nat → Bool
  | [] => true
  | [_] => true
  | c :: d :: r => decide (c < d) && incB (d :: r)
theorem inc_head : ∀ {r : List Nat} {c q d : Nat}, incB (c :: r) = true → r[q]? = some d → c < d
  | [], _, _, _, _, h => by simp at h
  | x :: r, c, 0, d, h, h2 => by
    simp only [incB, Bool.and_eq_true, decide_eq_true_eq] at h
    obtain rfl : x = d := by simpa using h2
    exact h.1
  | x :: r, c, q + 1, d, h, h2 => by
    simp only [incB, Bool.and_eq_true, decide_eq_true_eq] at h
    exact Nat.lt_trans h.1 (inc_head h.2 (by simpa using h2))
theorem inc_lt : ∀ {l : List Nat} {p q c d : Nat}, incB l = true → l[p]? = some c → l[q]? = some d → p < q → c < d
  | [], _, _, _, _, _, h, _, _ => by simp at h
  | x :: r, 0, q + 1, c, d, h, h1, h2, _ => by
    obtain rfl : x = c := by simpa using h1
    exact inc_head h (by simpa using h2)
  | x :: r, p + 1, q + 1, c, d, h, h1, h2, h3 => by
    have h' : incB r = true := by
      cases r with
      | nil => rfl
      | cons y r => simp only [incB, Bool.and_eq_true] at h; exact h.2
    exact inc_lt h' (by simpa using h1) (by simpa using h2) (by omega)
  | _, _, 0, _, _, _, _, _, h => absurd h (Nat.not_lt_zero _)
theorem inc_ix {l : List Nat} {p q c : Nat} (h : incB l = true) (h1 : l[p]? = some c) (h2 : l[q]? = some c) : p = q := by
  rcases Nat.lt_trichotomy p q with h3 | h3 | h3
  · exact absurd (inc_lt h h1 h2 h3) (Nat.lt_irrefl _)
  · exact h3
  · exact absurd (inc_lt h h2 h1 h3) (Nat.lt_irrefl _)
def lineB (ops : Array Oper) (ch : List Nat) : Bool :=
  (ch.all fun c => decide (c < ops.size)) && incB ch && (List.range ch.length).all fun p => p == 0 || hangs ops (ch.getD p 0) (ch.getD (p - 1) 0)
theorem line_lt {ops : Array Oper} {ch : List Nat} (h : lineB ops ch = true) {p c : Nat} (hp : ch[p]? = some c) : c < ops.size := by
  simp only [lineB, Bool.and_eq_true, List.all_eq_true, decide_eq_true_eq] at h
  exact h.1.1 c (List.mem_of_getElem? hp)
theorem line_hangs {ops : Array Oper} {ch : List Nat} (h : lineB ops ch = true) {p c d : Nat} (hp : ch[p + 1]? = some d) (hc : ch[p]? = some c) : hangs ops d c = true := by
  simp only [lineB, Bool.and_eq_true, List.all_eq_true, List.mem_range, Bool.or_eq_true, beq_iff_eq] at h
  have := (h.2 (p + 1) (List.getElem?_eq_some_iff.1 hp).1).resolve_left (by omega)
  rwa [List.getD_eq_getElem?_getD, hp, List.getD_eq_getElem?_getD, Nat.add_sub_cancel, hc] at this
section
variable {P : Program} {Q : Exit → Act → World → Prop}
def LineOp (P : Program) (Q : Exit → Act → World → Prop) (ops : Array Oper) (a : Act) (ch : List Nat) (G : Nat → World → Value → Prop) (J : List Value → World → Prop) (K : World → World → Prop) (p : Nat) (o : Oper) : Prop :=
  ∀ (A : Act) (vs : Nat → Value) (w' : World), (∀ t, slotIx ops.toList 0 t = none → A.eval (.tmp t) = a.eval (.tmp t)) → (∀ t j, t < a.tmps.size → slotIx ops.toList 0 t = some j → A.eval (.tmp t) = vs j) → J ((ch.take p).map vs) w' →
    (∀ q j d, p ≤ q → ch[q]? = some j → (ops[j]?).bind (·.dst) = some d → vs j = a.eval (.tmp d)) → (∀ e ∈ o.after, Region.binds .any e = true → ch.contains e.on = false → G e.on w' (vs e.on)) →
    o.wp P A w' (fun a2 w2 => ∃ v, a2 = A.put o.dst v ∧ J ((ch.take p).map vs ++ [v]) w2 ∧ K w' w2) Q
def SideOp (P : Program) (Q : Exit → Act → World → Prop) (ops : Array Oper) (a : Act) (ch : List Nat) (G : Nat → World → Value → Prop) (J : List Value → World → Prop) (i : Nat) (o : Oper) : Prop :=
  ∀ (A : Act) (vs : Nat → Value) (w' : World) (k : Nat), (∀ t, slotIx ops.toList 0 t = none → A.eval (.tmp t) = a.eval (.tmp t)) → (∀ t j, t < a.tmps.size → slotIx ops.toList 0 t = some j → A.eval (.tmp t) = vs j) → k ≤ ch.length → J ((ch.take k).map vs) w' →
    (∀ p c, ch[p]? = some c → hangs ops c i = true → k ≤ p) → (∀ q j d, k ≤ q → ch[q]? = some j → (ops[j]?).bind (·.dst) = some d → vs j = a.eval (.tmp d)) →
    (∀ e ∈ o.after, Region.binds .any e = true → ∀ p, ch[p]? = some e.on → p < k) → (∀ e ∈ o.after, Region.binds .any e = true → ch.contains e.on = false → G e.on w' (vs e.on)) →
    o.wp P A w' (fun a2 w2 => ∃ v, a2 = A.put o.dst v ∧ G i w2 v ∧ Below w'.heap.size w' w2) Q
def LnOp (P : Program) (Q : Exit → Act → World → Prop) (ops : Array Oper) (a : Act) (ch : List Nat) (G : Nat → World → Value → Prop) (J : List Value → World → Prop) (K : World → World → Prop) (i : Nat) (o : Oper) : Prop :=
  o.guard = none ∧ ((∃ p, ch[p]? = some i ∧ LineOp P Q ops a ch G J K p o) ∨ (ch.contains i = false ∧ SideOp P Q ops a ch G J i o))
theorem LnOp.line {ops : Array Oper} {a : Act} {ch : List Nat} {G : Nat → World → Value → Prop} {J : List Value → World → Prop} {K : World → World → Prop} {i : Nat} {o : Oper} (p : Nat) (hg : o.guard = none) (hp : ch[p]? = some i) (h : LineOp P Q ops a ch G J K p o) : LnOp P Q ops a ch G J K i o := ⟨hg, .inl ⟨p, hp, h⟩⟩
theorem LnOp.side {ops : Array Oper} {a : Act} {ch : List Nat} {G : Nat → World → Value → Prop} {J : List Value → World → Prop} {K : World → World → Prop} {i : Nat} {o : Oper} (hg : o.guard = none) (hp : ch.contains i = false) (h : SideOp P Q ops a ch G J i o) : LnOp P Q ops a ch G J K i o := ⟨hg, .inr ⟨hp, h⟩⟩
def LnAll (P : Program) (Q : Exit → Act → World → Prop) (ops : Array Oper) (a : Act) (ch : List Nat) (G : Nat → World → Value → Prop) (J : List Value → World → Prop) (K : World → World → Prop) : Nat → List Oper → Prop
  | _, [] => True
  | i, o :: rest => LnOp P Q ops a ch G J K i o ∧ LnAll P Q ops a ch G J K (i + 1) rest
theorem LnAll.get {ops : Array Oper} {a : Act} {ch : List Nat} {G : Nat → World → Value → Prop} {J : List Value → World → Prop} {K : World → World → Prop} : ∀ (l : List Oper) (k j : Nat) (o : Oper), LnAll P Q ops a ch G J K k l → l[j]? = some o → LnOp P Q ops a ch G J K (k + j) o
  | [], _, _, _, _, h => by simp at h
  | o' :: rest, k, 0, o, h, hj => by obtain rfl : o' = o := by simpa using hj
                                     exact h.1
  | o' :: rest, k, j + 1, o, h, hj => by rw [show k + (j + 1) = k + 1 + j by omega]; exact LnAll.get rest (k + 1) j o h.2 (by simpa using hj)
theorem map_upd_out {l : List Nat} {vs : Nat → Value} {i : Nat} {v : Value} (h : i ∉ l) : l.map (upd vs i v) = l.map vs := by
  refine List.map_congr_left fun j hj => ?_
  have : j ≠ i := fun e => h (by rw [← e]; exact hj)
  simp [upd, this]
theorem wp_region_line {id : Nat} {ops : Array Oper} {a : Act} {w : World} (hm : P.follows .mixedOrders = true) (hs : gdB ops = true) (ch : List Nat) (hch : lineB ops ch = true) (G : Nat → World → Value → Prop) (J : List Value → World → Prop) (K : World → World → Prop)
    (hG : ∀ i w v w', G i w v → Below w.heap.size w w' → G i w' v) (hK : ∀ i w v w', G i w v → K w w' → G i w' v) (hJ : ∀ l w w', J l w → Below w.heap.size w w' → J l w') (h0 : J [] w)
    (hop : LnAll P Q ops a ch G J K 0 ops.toList)
    (hend : ∀ (vs : Nat → Value) (w' : World), J (ch.map vs) w' → (∀ i, i < ops.size → ch.contains i = false → G i w' (vs i)) → Q .normal (putAll a ops.toList vs 0) w') : (Code.region id ops true).wp P Q a w := by
  refine wp_region_any hm ?_
  have hnd : (ops.toList.filterMap (·.dst)).Nodup := by simp only [gdB, slotsB, Bool.and_eq_true, decide_eq_true_eq] at hs; exact hs.2
  have hinc : incB ch = true := by simp only [lineB, Bool.and_eq_true] at hch; exact hch.1.2
  have main : ∀ (fuel : Nat) (listed : Array Bool) (vs : Nat → Value) (w' : World) (k : Nat), listed.size = ops.size → (unlisted ops.size listed).length ≤ fuel → k ≤ ch.length → (∀ p c, ch[p]? = some c → (listed.getD c true = true ↔ p < k)) → J ((ch.take k).map vs) w' →
      (∀ i, i < ops.size → listed.getD i true = true → ch.contains i = false → G i w' (vs i)) → (∀ i o, ops[i]? = some o → listed.getD i true = true → ∀ e ∈ o.after, Region.binds .any e = true → e.on < ops.size ∧ listed.getD e.on true = true) → (∀ j, j < ops.size → listed.getD j true = false → ∀ d, (ops[j]?).bind (·.dst) = some d → vs j = a.eval (.tmp d)) → wpAny P .any ops Q fuel listed (putAll a ops.toList vs 0) w' := by
    intro fuel
    have fin : ∀ (listed : Array Bool) (vs : Nat → Value) (w' : World) (k : Nat), k ≤ ch.length → (∀ p c, ch[p]? = some c → (listed.getD c true = true ↔ p < k)) → J ((ch.take k).map vs) w' →
        (∀ i, i < ops.size → listed.getD i true = true → ch.contains i = false → G i w' (vs i)) → (∀ i, i < ops.size → listed.getD i true = true) → Q .normal (putAll a ops.toList vs 0) w' := by
      intro listed vs w' k hk hlk hJ' hG' hall
      have : k = ch.length := by
        rcases Nat.lt_or_ge k ch.length with h | h
        · have h1 := List.getElem?_eq_getElem h
          have h2 := (hlk k _ h1).1 (hall _ (line_lt hch h1))
          omega
        · omega
      subst this
      rw [List.take_length] at hJ'
      exact hend vs w' hJ' fun i hi hc => hG' i hi (hall i hi) hc
    induction fuel with
    | zero =>
      intro listed vs w' k hsz hu hk hlk hJ' hG' hcl hun
      have hall : ∀ i, i < ops.size → listed.getD i true = true := by
        intro i hi
        cases hl : listed.getD i true with
        | true => rfl
        | false =>
          have : i ∈ unlisted ops.size listed := List.mem_filter.2 ⟨List.mem_range.2 hi, by simp [hl]⟩
          rw [List.eq_nil_of_length_eq_zero (Nat.le_zero.1 hu)] at this
          cases this
      refine ⟨?_, fin listed vs w' k hk hlk hJ' hG' hall⟩
      unfold Region.ready
      rw [List.filter_eq_nil_iff]
      intro i hi
      simp [hall i (List.mem_range.1 hi)]
    | succ fuel ih =>
      intro listed vs w' k hsz hu hk hlk hJ' hG' hcl hun
      refine ⟨fun hr => fin listed vs w' k hk hlk hJ' hG' (fun i hi => all_listed_gd hs hr i hi), fun i hi => ?_⟩
      unfold Region.ready at hi
      obtain ⟨hi1, hi2⟩ := List.mem_filter.1 hi
      have hlt := List.mem_range.1 hi1
      rw [Bool.and_eq_true] at hi2
      obtain ⟨hl, hdep⟩ := hi2
      have hl' : listed.getD i true = false := by simpa using hl
      obtain ⟨o, ho⟩ : ∃ o, ops[i]? = some o := ⟨_, Array.getElem?_eq_getElem hlt⟩
      rw [ho] at hdep
      simp only [Option.map_some, Option.getD_some] at hdep
      rw [Array.all_eq_true'] at hdep
      have hgop := LnAll.get ops.toList 0 i o hop (by rw [Array.getElem?_toList]; exact ho)
      rw [Nat.zero_add] at hgop
      have hdepG : ∀ e ∈ o.after, Region.binds .any e = true → e.on < ops.size ∧ listed.getD e.on true = true := by
        intro e he hbn
        have h := hdep e he
        rw [hbn] at h
        simp only [Bool.not_true, Bool.false_or] at h
        have hin : e.on < listed.size := by
          rcases Nat.lt_or_ge e.on listed.size with h' | h'
          · exact h'
          · simp [Array.getD_eq_getD_getElem?, Array.getElem?_eq_none_iff.2 h'] at h
        have hl2 : listed.getD e.on true = true := by
          simp only [Array.getD_eq_getD_getElem?, Array.getElem?_eq_getElem hin, Option.getD_some] at h ⊢
          exact h
        exact ⟨by omega, hl2⟩
      have hdepS : ∀ e ∈ o.after, Region.binds .any e = true → ch.contains e.on = false → G e.on w' (vs e.on) := fun e he hbn hc => hG' e.on (hdepG e he hbn).1 (hdepG e he hbn).2 hc
      have hlate : ∀ q j d, k ≤ q → ch[q]? = some j → (ops[j]?).bind (·.dst) = some d → vs j = a.eval (.tmp d) := by
        intro q j d hq hj hd
        refine hun j (line_lt hch hj) ?_ d hd
        cases hlj : listed.getD j true with
        | false => rfl
        | true => have := (hlk q j hj).1 hlj; omega
      have step : ∀ (v : Value) (w2 : World) (k2 : Nat), k2 ≤ ch.length → (∀ p c, ch[p]? = some c → ((c = i ∨ p < k) ↔ p < k2)) → J ((ch.take k2).map (upd vs i v)) w2 → (ch.contains i = false → G i w2 v) → (∀ j u, ch.contains j = false → G j w' u → G j w2 u) → wpAny P .any ops Q fuel (listed.setIfInBounds i true) ((putAll a ops.toList vs 0).put o.dst v) w2 := by
        intro v w2 k2 hk2 hlk2 hJ2 hGi hGs
        rw [putAll_put ops.toList a vs 0 i o v hnd (by rw [Array.getElem?_toList]; exact ho), Nat.zero_add]
        have hset : ∀ j, (listed.setIfInBounds i true).getD j true = true ↔ j = i ∨ listed.getD j true = true := fun j => by
          by_cases hji : j = i
          · subst hji
            simp [Array.getD_eq_getD_getElem?, Array.getElem?_setIfInBounds_self_of_lt (by omega : j < listed.size)]
          · simp [Array.getD_eq_getD_getElem?, Array.getElem?_setIfInBounds_ne (Ne.symm hji), hji]
        refine ih _ _ _ k2 (by simp [hsz]) (by have := unlisted_set hsz hlt hl'; omega) hk2 (fun p c hp => ?_) hJ2 (fun j hj hlj hc => ?_) (fun j oj hoj hlj e he hbn => ?_) (fun j hj hlj d hd => ?_)
        · rw [hset, ← hlk2 p c hp, hlk p c hp]
        · by_cases hji : j = i
          · subst hji
            simpa [upd] using hGi hc
          · have hlj' := ((hset j).1 hlj).resolve_left hji
            have hv : upd vs i v j = vs j := by simp [upd, hji]
            rw [hv]
            exact hGs j _ hc (hG' j hj hlj' hc)
        · by_cases hji : j = i
          · subst hji
            obtain rfl : o = oj := by rw [ho] at hoj; injection hoj
            have := hdepG e he hbn
            exact ⟨this.1, (hset _).2 (.inr this.2)⟩
          · have hlj' := ((hset j).1 hlj).resolve_left hji
            have := hcl j oj hoj hlj' e he hbn
            exact ⟨this.1, (hset _).2 (.inr this.2)⟩
        · have hji : j ≠ i := fun e => by
            have := (hset j).2 (.inl e)
            rw [hlj] at this; cases this
          have hv : upd vs i v j = vs j := by simp [upd, hji]
          rw [hv]
          refine hun j hj ?_ d hd
          cases h : listed.getD j true with
          | false => rfl
          | true => have := (hset j).2 (.inr h); rw [hlj] at this; cases this
      unfold wpOp
      simp only [ho, Region.wanted, hgop.1, if_true]
      left
      rcases hgop.2 with ⟨p, hp, hln⟩ | ⟨hc, hsd⟩
      · have hkp : k = p := by
          have h1 : ¬ p < k := fun h => by have := (hlk p i hp).2 h; rw [hl'] at this; cases this
          cases p with
          | zero => omega
          | succ p =>
            obtain ⟨c, hcp⟩ : ∃ c, ch[p]? = some c := ⟨_, List.getElem?_eq_getElem (by have := (List.getElem?_eq_some_iff.1 hp).1; omega)⟩
            obtain ⟨o2, ho2, e, he, rfl, hbn⟩ := hangs_get (line_hangs hch hp hcp)
            obtain rfl : o = o2 := by rw [ho] at ho2; injection ho2
            have := (hlk p _ hcp).1 (hdepG e he hbn).2
            omega
        subst hkp
        have hkl := (List.getElem?_eq_some_iff.1 hp).1
        have hwp := hln (putAll a ops.toList vs 0) vs w' (fun t h => eval_putAll_out _ _ _ _ _ h) (fun t j ht h => eval_putAll_in _ _ _ _ _ _ hnd ht h) hJ' hlate hdepS
        refine Oper.wp_mono ?_ hwp
        rintro a2 w2 ⟨v, rfl, hJ2, hK2⟩
        refine step v w2 (k + 1) hkl (fun p c hpc => ?_) ?_ (fun hc => ?_) (fun j u _ hg => hK j w' u w2 hg hK2)
        · constructor
          · rintro (rfl | h)
            · have := inc_ix hinc hpc hp; omega
            · omega
          · intro h
            by_cases h3 : p = k
            · subst h3
              rw [hp] at hpc
              injection hpc with hpc
              exact .inl hpc.symm
            · exact .inr (by omega)
        · have e1 : ch.take (k + 1) = ch.take k ++ [i] := by
            rw [List.take_add_one, hp]; rfl
          have e2 : i ∉ ch.take k := fun hmem => by
            obtain ⟨q, hq⟩ := List.mem_iff_getElem?.1 hmem
            rw [List.getElem?_take] at hq
            split at hq
            · have := inc_ix hinc hq hp; omega
            · cases hq
          rw [e1, List.map_append, map_upd_out e2]
          simpa [upd] using hJ2
        · rw [List.contains_iff_mem.2 (List.mem_of_getElem? hp)] at hc
          cases hc
      · have hci : i ∉ ch := fun h => by rw [List.contains_iff_mem.2 h] at hc; cases hc
        have hwp := hsd (putAll a ops.toList vs 0) vs w' k (fun t h => eval_putAll_out _ _ _ _ _ h) (fun t j ht h => eval_putAll_in _ _ _ _ _ _ hnd ht h) hk hJ' (fun p c hpc hh => ?_) hlate (fun e he hbn p hp => (hlk p e.on hp).1 (hdepG e he hbn).2) hdepS
        · refine Oper.wp_mono ?_ hwp
          rintro a2 w2 ⟨v, rfl, hg, hb2⟩
          refine step v w2 k hk (fun p c hpc => ⟨fun h => ?_, .inr⟩) ?_ (fun _ => hg) (fun j u _ hgj => hG j w' u w2 hgj hb2)
          · rcases h with rfl | h
            · exact absurd (List.mem_of_getElem? hpc) hci
            · exact h
          · rw [map_upd_out (fun hmem => hci (List.mem_of_mem_take hmem))]
            exact hJ _ _ _ hJ' hb2
        · rcases Nat.lt_or_ge p k with h | h
          · exfalso
            obtain ⟨o2, ho2, e, he, hei, hbn⟩ := hangs_get hh
            have := (hcl c o2 ho2 ((hlk p c hpc).2 h) e he hbn).2
            rw [hei, hl'] at this
            cases this
          · exact h
  have hbz : Below w.heap.size w { w with drawn := w.drawn + 1 } := ⟨rfl, rfl, rfl, Nat.le_refl _, fun _ _ => rfl⟩
  have h1 := main ops.size (Array.replicate ops.size false) (fun i => ((ops[i]?).bind (·.dst)).elim undef (fun d => a.tmps.getD d undef)) { w with drawn := w.drawn + 1 } 0 (by simp)
    (by have := List.length_filter_le (fun i => !(Array.replicate ops.size false).getD i true) (List.range ops.size); simpa [unlisted] using this) (Nat.zero_le _)
    (fun p c hp => by have := line_lt hch hp; simp [Array.getD_eq_getD_getElem?, this]) (hJ _ _ _ h0 hbz)
    (fun i hi h => by simp [Array.getD_eq_getD_getElem?, hi] at h) (fun i o ho h => by
      have : i < ops.size := (Array.getElem?_eq_some_iff.1 ho).1
      simp [Array.getD_eq_getD_getElem?, this] at h)
    (fun j hj _ d hd => by simp only [hd, Option.elim]; rfl)
  rw [putAll_orig ops.toList a _ 0 (fun j o d hj hd => by
    rw [Array.getElem?_toList] at hj
    simp [hj, hd])] at h1
  exact h1
end
abbrev SGn (K : World → World → Prop) := { G : World → Value → Prop // (∀ w v w', G w v → Below w.heap.size w w' → G w' v) ∧ (∀ w v w', G w v → K w w' → G w' v) }
section
variable {K : World → World → Prop}
def lEq (u : Value) : SGn K := ⟨fun _ v => v = u, fun _ _ _ h _ => h, fun _ _ _ h _ => h⟩
def lAny : SGn K := ⟨fun _ _ => True, fun _ _ _ h _ => h, fun _ _ _ h _ => h⟩
variable {P : Program} {Q : Exit → Act → World → Prop}
theorem wp_region_lnl {id : Nat} {ops : Array Oper} {a : Act} {w : World} (hm : P.follows .mixedOrders = true) (hs : gdB ops = true) (ch : List Nat) (hch : lineB ops ch = true) (Gs : List (SGn K)) (J : List Value → World → Prop)
    (hJ : ∀ l w w', J l w → Below w.heap.size w w' → J l w') (h0 : J [] w)
    (hop : LnAll P Q ops a ch (fun i => (Gs.getD i lAny).1) J K 0 ops.toList)
    (hend : ∀ (vs : Nat → Value) (w' : World), J (ch.map vs) w' → (∀ i, i < ops.size → ch.contains i = false → (Gs.getD i lAny).1 w' (vs i)) → Q .normal (putAll a ops.toList vs 0) w') : (Code.region id ops true).wp P Q a w :=
  wp_region_line hm hs ch hch (fun i => (Gs.getD i lAny).1) J K (fun i => (Gs.getD i lAny).2.1) (fun i => (Gs.getD i lAny).2.2) hJ h0 hop hend
end
end Go.Proofs.Ytobelnedhlepaaa
namespace Go.Proofs.Ytobelnedhlepaaa
open Go.RowKit
def ApJ {α : Type} (E : Elt α) (Te : TypeId) (base lo : Nat) (r : Option Nat) (W : World) (xs ys : List α) : List Value → World → Prop
  | [], V => Below W.heap.size W V
  | s :: rest, V => (∀ u ∈ rest, u = s) ∧ W.grownBy V r ∧ ∃ ad c, s = .slice ad (xs ++ ys).length c ∧ OwnL E Te base lo V (.slice ad (xs ++ ys).length c) (xs ++ ys)
section
variable {α : Type} {E : Elt α} {Te : TypeId} {base lo : Nat} {r : Option Nat} {W : World} {xs ys : List α}
theorem grownB {A B : World} (h : Below A.heap.size A B) (r : Option Nat) : A.grownBy B r := ⟨h.os, h.tape, h.output, h.size, fun k hk _ => h.block k hk⟩
theorem grownT {A B C : World} (h : A.grownBy B r) (k : B.grownBy C r) : A.grownBy C r := ⟨k.os.trans h.os, k.tape.trans h.tape, k.output.trans h.output, Nat.le_trans h.size k.size, fun j hj hn => (k.block j (Nat.lt_of_lt_of_le hj h.size) hn).trans (h.block j hj hn)⟩
theorem ApJ.below : ∀ (l : List Value) (V V' : World), ApJ E Te base lo r W xs ys l V → Below V.heap.size V V' → ApJ E Te base lo r W xs ys l V'
  | [], _, _, h, hb => Below.trans h (hb.mono (Below.size h))
  | _ :: _, _, _, ⟨h0, h1, ad, c, e, h2⟩, hb => ⟨h0, grownT h1 (grownB hb r), ad, c, e, h2.below hb⟩
theorem ApJ.grown : ∀ {l : List Value} {V : World}, ApJ E Te base lo r W xs ys l V → W.grownBy V r
  | [], _, h => grownB h r
  | _ :: _, _, ⟨_, h, _⟩ => h
theorem RdS.grownR {S : Nat → Prop} {V : World} {v : Value} {l : List UInt8} (h : RdS S W v l) (hg : W.grownBy V r) (hr : ∀ k, r = some k → ¬ S k) : RdS S V v l := (h.fit.keep fun k hk => hg.block k hk.2 fun e => hr k e.symm hk.1).weak fun _ hk => hk.1
theorem RdL.grownR {β : Type} {F : Elt β} {S : Nat → Prop} {V : World} {v : Value} {l : List β} (h : RdL F S W v l) (hg : W.grownBy V r) (hr : ∀ k, r = some k → ¬ S k) : RdL F S V v l := (h.fit.keep fun k hk => hg.block k hk.2 fun e => hr k e.symm hk.1).weak fun _ hk => hk.1
def inNew (S : Nat → Prop) (W V : World) : Nat → Prop := fun k => (S k ∨ W.heap.size ≤ k) ∧ k < V.heap.size
theorem inNew.ne {S : Nat → Prop} {V : World} {k : Nat} (hr : ∀ k, r = some k → k < W.heap.size) (hS : ∀ k, S k → some k ≠ r) (h : inNew S W V k) : some k ≠ r := by
  rcases h.1 with h1 | h1
  · exact hS k h1
  · intro e; have := hr k e.symm; omega
def aElt (E : Elt α) (W : World) (r : Option Nat) (S : Nat → Prop) (x : α) (hr : ∀ k, r = some k → k < W.heap.size) (hS : ∀ k, S k → some k ≠ r) : SGn (fun A B => A.grownBy B r) :=
  ⟨fun V v => ∃ us : List Value, v.cells = us.toArray ∧ E.R (inNew S W V) V x us,
  fun _ _ _ ⟨us, e, h⟩ hb => ⟨us, e, E.weak (Elt.below h hb) fun _ hk => ⟨hk.1, Nat.lt_of_lt_of_le hk.2 hb.size⟩⟩,
  fun _ _ _ ⟨us, e, h⟩ hk => ⟨us, e, E.weak (E.keep h fun k h2 => hk.block k h2.2 (inNew.ne hr hS h2)) fun _ h2 => ⟨h2.1, Nat.lt_of_lt_of_le h2.2 hk.size⟩⟩⟩
def aRd (W : World) (r : Option Nat) (S : Nat → Prop) (x : List UInt8) (hr : ∀ k, r = some k → k < W.heap.size) (hS : ∀ k, S k → some k ≠ r) : SGn (fun A B => A.grownBy B r) :=
  ⟨fun V v => RdS (inNew S W V) V v x,
  fun _ _ _ h hb => (h.below hb).weak fun _ hk => ⟨hk.1, Nat.lt_of_lt_of_le hk.2 hb.size⟩,
  fun _ _ _ h hk => (h.keep fun k h2 => hk.block k h2.2 (inNew.ne hr hS h2)).weak fun _ h2 => ⟨h2.1, Nat.lt_of_lt_of_le h2.2 hk.size⟩⟩
def aRow (E : Elt α) (Te : TypeId) (W : World) (r : Option Nat) (S : Nat → Prop) (x : α) (hr : ∀ k, r = some k → k < W.heap.size) (hS : ∀ k, S k → some k ≠ r) : SGn (fun A B => A.grownBy B r) :=
  ⟨fun V v => ∃ g, ∃ us : List Value, v = .slice (some ⟨g, 0, none⟩) 1 1 ∧ W.heap.size ≤ g ∧ V.heap[g]? = some (.cells us.toArray Te (0, 0)) ∧ E.R (inNew S W V) V x us,
  fun _ _ _ ⟨g, us, h, h0, hc, hR⟩ hb => ⟨g, us, h, h0, (hb.block g (Array.getElem?_eq_some_iff.1 hc).1).trans hc, E.weak (Elt.below hR hb) fun _ hk => ⟨hk.1, Nat.lt_of_lt_of_le hk.2 hb.size⟩⟩,
  fun _ _ _ ⟨g, us, h, h0, hc, hR⟩ hk => ⟨g, us, h, h0, (hk.block g (Array.getElem?_eq_some_iff.1 hc).1 (fun e => by have := hr g e.symm; omega)).trans hc, E.weak (E.keep hR fun k h2 => hk.block k h2.2 (inNew.ne hr hS h2)) fun _ h2 => ⟨h2.1, Nat.lt_of_lt_of_le h2.2 hk.size⟩⟩⟩
def aZb (T : TypeId) (W : World) (r : Option Nat) (hr : ∀ k, r = some k → k < W.heap.size) : SGn (fun A B => A.grownBy B r) :=
  ⟨fun V v => ∃ g, v = .slice (some g) 0 0 ∧ Own T W.heap.size V v [], fun _ _ _ ⟨g, e, h⟩ hb => ⟨g, e, h.below hb⟩,
    fun _ _ _ ⟨g, e, n, h⟩ hk => ⟨g, e, n, h.1, h.2.imp id fun ⟨g, cap, cur, hv, h1, hg, z⟩ => ⟨g, cap, cur, hv, h1, (hk.block g (Array.getElem?_eq_some_iff.1 hg).1 (fun e => by have := hr g e.symm; omega)).trans hg, z⟩⟩⟩
theorem aRow.mk {S : Nat → Prop} {x : α} {us : List Value} {hr : ∀ k, r = some k → k < W.heap.size} {hS : ∀ k, S k → some k ≠ r} {V : World} (hWV : W.heap.size ≤ V.heap.size) (hR : E.R (inNew S W V) V x us) :
    (aRow E Te W r S x hr hS).1 (V.alloc (.cells us.toArray Te)) (.slice (some ⟨V.heap.size, 0, none⟩) 1 1) := by
  have hb : Below V.heap.size V (V.alloc (.cells us.toArray Te)) := (Below.refl _ _).alloc (Nat.le_refl _) _
  exact ⟨_, us, rfl, hWV, by simp only [World.alloc, Array.getElem?_push_size], E.weak (Elt.below hR hb) fun k hk => ⟨hk.1, Nat.lt_of_lt_of_le hk.2 hb.size⟩⟩
variable {P : Program} {T : TypeId} {o : Oper} {a : Act} {Q : Exit → Act → World → Prop} {K : Act → World → Prop}
theorem wp_apv (hP : LoP P T Te E.size) {x y : Operand} {S : Nat → Prop} {e : α} {hr : ∀ k, r = some k → k < W.heap.size} {hS : ∀ k, S k → some k ≠ r} {V : World} (hJ : Below W.heap.size W V) (ho : o.op = .call { callee := .builtin .append, args := #[x, y], argTypes := #[T, T] }) {v u : Value} (hx : a.eval x = v) (hy : a.eval y = u)
    (hO : OwnL E Te base lo W v xs) (hro : r = v.ownBlock) (hu : (aRow E Te W r S e hr hS).1 V u) (hSl : ∀ k, S k → lo ≤ k) (hlo : lo ≤ W.heap.size) (hbase : base ≤ W.heap.size) (hlen : xs.length + 1 ≤ 1073741824)
    (h : ∀ v' V', ApJ E Te base lo r W xs [e] [v'] V' → V.grownBy V' r → K (a.put o.dst v') V') : o.wp P a V K Q := by
  obtain ⟨g, us, eg, hg0, hgc, hgR⟩ := hu
  subst eg
  subst hro
  refine wp_appendL (E := E) (ys := [e]) hP ho hx (hO.below hJ) hy (fun j u hj => by rw [Addr.add_lit, World.cell?, hgc]; simpa using hj) (Flat.single hgR) (fun k hk => ⟨?_, hk.2, inNew.ne hr hS hk⟩) (Nat.le_trans hbase hJ.size) (fun ad7 k7 cap7 w2 h2 hg h3 => ?_) hlen
  · rcases hk.1 with h1 | h1
    · exact hSl k h1
    · exact Nat.le_trans hlo h1
  · obtain rfl : k7 = (xs ++ [e]).length := h2.len
    exact h _ _ ⟨(fun _ h => by cases h), grownT (grownB hJ _) hg, ad7, cap7, rfl, h2⟩ hg
variable {ops : Array Oper} {rest : List Oper} {w : World}
theorem wpList_buildOne {n : Nat} (hP : LoP P T Te n) {y : Operand} {v : Value} {us : List Value} (ho : o.op = .buildSlice T 1 #[(0, y)]) (hgd : Region.wanted o (yielded ops a.tmps) = true) (hy : a.eval y = v) (hv : v.cells = us.toArray) (hl : us.length = n) (h0 : 0 < n) (hn : n ≤ 4096)
    (h : ∀ w', Below w.heap.size w w' → w'.heap[w.heap.size]? = some (.cells us.toArray Te (0, 0)) → wpList P ops Q rest (a.put o.dst (.slice (some ⟨w.heap.size, 0, none⟩) 1 1)) w') : wpList P ops Q (o :: rest) a w :=
  BigFrame.wpList_want hgd fun _ hK => wp_buildOne hP ho hy hv hl h0 hn (hK _ _ (h _ ((Below.refl _ _).alloc (Nat.le_refl _) _) (by simp only [World.alloc, Array.getElem?_push_size])))
theorem wpList_apvRow (hP : LoP P T Te E.size) {x y : Operand} {S : Nat → Prop} {e : α} {us : List Value} {n g : Nat} {v : Value} (ho : o.op = .call { callee := .builtin .append, args := #[x, y], argTypes := #[T, T] }) (hgd : Region.wanted o (yielded ops a.tmps) = true) (hx : a.eval x = v) (hy : a.eval y = .slice (some ⟨g, 0, none⟩) 1 1)
    (hO : OwnL E Te base lo w v xs) (hrow : w.heap[g]? = some (.cells us.toArray Te (0, 0))) (hR : E.R S w e us) (hS : ∀ k, S k → lo ≤ k ∧ k < w.heap.size ∧ some k ≠ v.ownBlock) (hbase : base ≤ w.heap.size) (hlen : xs.length + 1 ≤ 1073741824) (hn : n = xs.length + 1)
    (h : ∀ ad cap w', OwnL E Te base lo w' (.slice ad n cap) (xs ++ [e]) → w.grownBy w' v.ownBlock → (Value.ownBlock (.slice ad n cap) = v.ownBlock ∨ Value.ownBlock (.slice ad n cap) = some w.heap.size) → wpList P ops Q rest (a.put o.dst (.slice ad n cap)) w') : wpList P ops Q (o :: rest) a w := by
  refine wpList_appendL (E := E) (ys := [e]) hP ho hgd hx hO hy (fun j u hj => by rw [Addr.add_lit, World.cell?, hrow]; simpa using hj) (Flat.single hR) hS hbase (fun ad7 k7 cap7 w2 h2 hg h3 => ?_) hlen
  obtain rfl : k7 = n := by rw [h2.len, List.length_append, hn]; rfl
  exact h _ _ _ h2 hg h3
end
end Go.Proofs.Ytobelnedhlepaaa
namespace Go.Proofs.Ytobelnedhlepaaa
open Go.RowKit
section
variable {P : Program} {T E S : TypeId} {o : Oper} {a : Act} {K : Act → Prop} {w : World}
theorem quiet_conv (hP : ByP P T E S) {x : Operand} (ho : o.op = .convert T S x) {B : Nat} {v : Value} {xs : List UInt8} (hx : a.eval x = v) (hr : Rd B w v xs) (h : K (a.put o.dst (.string (strOf xs)))) : o.quiet P a (fun w'' => ∃ n, w'' = w.drewN n) K := by
  refine ⟨_, fun w2 h2 => ?_, h⟩
  obtain ⟨n, rfl⟩ := h2
  have hr2 : Rd B (w.drewN n) v xs := hr
  unfold Oper.quietAt execOp
  simp only [ho, hx, Sem.run_bind, Sem.run_pure, Result.andThen_ok, run_conv hP hr2]
  exact ⟨rfl, rfl⟩
end
end Go.Proofs.Ytobelnedhlepaaa
namespace Go.Proofs.Ytobelnedhlepaaa
open Go.RowKit Go.Shelf
theorem strOf_listD (xs : List UInt8) : (strOf xs).toList = xs := by simp [strOf]
theorem str_eqD {a b : List UInt8} : ((strOf a).toList == (strOf b).toList) = decide (a = b) := by
  rw [strOf_listD, strOf_listD]
  by_cases e : a = b <;> simp [e]
theorem take_both {α : Type} {l m : List α} {i : Nat} (h1 : i < l.length) (h2 : i < m.length) (h : l.take i = m.take i) (e : l[i] = m[i]) : l.take (i + 1) = m.take (i + 1) := by
  rw [List.take_succ_eq_append_getElem h1, List.take_succ_eq_append_getElem h2, h, e]
set_option maxRecDepth 100000 in
set_option maxHeartbeats 8000000 in
theorem refWrites_any (w : World) {S S2 : Nat → Prop} {a a2 : Option Addr} {n cx n2 cy : Nat} {l m : List Wr} (hl : RdL Elt.wr S w (.slice a n cx) l) (hm : RdL Elt.wr S2 w (.slice a2 n2 cy) m) :
    Calls Try.prog 49 #[.slice a n cx, .slice a2 n2 cy] w fun e w' => e = .returned (.bool (decide (l = m))) ∧ Below w.heap.size w w' := by
  obtain ⟨rfl, hnc, hcm⟩ := hl.len
  obtain ⟨rfl, hnc2, hcm2⟩ := hm.len
  have hlm : l.length ≤ 9223372036854775807 := by unfold maxLen at hcm; omega
  have q := Below.refl w.heap.size w
  by_cases hlen : l.length = m.length
  case neg =>
    have d : ((l.length : Int) == (m.length : Int)) = false := beq_eq_false_iff_ne.2 (by omega)
    have d2 : (l.length == m.length) = false := beq_eq_false_iff_ne.2 hlen
    have d3 : ((l.length : Int) != (m.length : Int)) = true := bne_iff_ne.2 (by omega)
    have H := Lib.hid (show decide (l = m) = false from decide_eq_false fun h => hlen (by rw [h]))
    clear hlen
    go_enter Try.func49, Try.ntmps49
    go_wp2_with fail
    go_ret
    exact ⟨by rw [H.out]; rfl, q⟩
  case pos =>
  have d : ((l.length : Int) == (m.length : Int)) = true := beq_iff_eq.2 (by omega)
  have d2 : (l.length == m.length) = true := beq_iff_eq.2 hlen
  have d3 : ((l.length : Int) != (m.length : Int)) = false := bne_eq_false_iff_eq.2 (by omega)
  have hle : l.length ≤ m.length := by omega
  replace hlen := Lib.hid hlen
  go_enter Try.func49, Try.ntmps49
  go_upto_region 4 with (fail)
  go_loopw [5] (fun iv wr => ∃ i : Nat, iv = .int .i64 i ∧ i ≤ l.length ∧ l.take i = m.take i ∧ Below w.heap.size w wr) (fun i _ => l.length - (intOf i).toNat)
  case atStart => exact ⟨0, rfl, Nat.zero_le _, by simp, q⟩
  case round =>
    clear q
    obtain ⟨i, rfl, hil, hno, q⟩ := hrel
    rcases Nat.lt_or_ge i l.length with hlt | hge
    · have hlt2 : i < m.length := Nat.lt_of_lt_of_le hlt hle
      obtain ⟨b, off, A, C, A2, C2, rfl, hb, g0, g1, g2, g3, hk1, hk2, hw64⟩ := (hl.below q).wr i hlt
      obtain ⟨b', off', A', C', A2', C2', rfl, hb', f0, f1, f2, f3, hk3, hk4, hw64'⟩ := (hm.below q).wr i hlt2
      have r1 := hk1.rd
      have r2 := hk2.rd
      have r3 := hk3.rd
      have r4 := hk4.rd
      clear hw64 hw64' hb hb'
      by_cases e0 : l[i].table = m[i].table
      · by_cases e1 : l[i].key = m[i].key
        · by_cases e2 : l[i].gone = m[i].gone
          · by_cases e3 : l[i].val = m[i].val
            · have H := Lib.hid (take_both hlt hlt2 hno (by cases h1 : l[i]; cases h2 : m[i]; rw [h1, h2] at e0 e1 e2 e3; simp_all))
              have dn0 : (l[i].table != m[i].table) = false := bne_eq_false_iff_eq.2 e0
              have d0 : (l[i].table == m[i].table) = true := beq_iff_eq.2 e0
              have dd0 : decide (l[i].table = m[i].table) = true := decide_eq_true e0
              have d1 : ((strOf l[i].key).toList == (strOf m[i].key).toList) = true := str_eqD.trans (decide_eq_true e1)
              have dn2 : (l[i].gone != m[i].gone) = false := bne_eq_false_iff_eq.2 e2
              have d2 : (l[i].gone == m[i].gone) = true := beq_iff_eq.2 e2
              have d3 : ((strOf l[i].val).toList == (strOf m[i].val).toList) = true := str_eqD.trans (decide_eq_true e3)
              clear hno e0 e1 e2 e3
              go_upto_region 6 with (fail)
              refine wp_region_quiet_lit (by kernel_rfl) (by kernel_rfl) ?_
              repeat (first | go_big_quiet_step (fail) | (go_big_quiet_want; refine quiet_conv byP rfl rfl r1 ?_; go_big_quiet_on; go_simp) | (go_big_quiet_want; refine quiet_conv byP rfl rfl r2 ?_; go_big_quiet_on; go_simp) | (go_big_quiet_want; refine quiet_conv byP rfl rfl r3 ?_; go_big_quiet_on; go_simp) | (go_big_quiet_want; refine quiet_conv byP rfl rfl r4 ?_; go_big_quiet_on; go_simp))
              first | (refine wpQuiet_nil ?_; intro _ hw'; obtain ⟨nq, hw''⟩ := hw'; subst hw'') | intro nq
              go_wp2_with fail
              go_roundw
              case rel => exact ⟨i + 1, by go_num, by omega, H.out, Below.drewN q _⟩
              case measure => simp [intOf]; omega
            · have H := Lib.hid (show decide (l = m) = false from decide_eq_false fun h => e3 (by subst h; rfl))
              have dn0 : (l[i].table != m[i].table) = false := bne_eq_false_iff_eq.2 e0
              have d0 : (l[i].table == m[i].table) = true := beq_iff_eq.2 e0
              have dd0 : decide (l[i].table = m[i].table) = true := decide_eq_true e0
              have d1 : ((strOf l[i].key).toList == (strOf m[i].key).toList) = true := str_eqD.trans (decide_eq_true e1)
              have dn2 : (l[i].gone != m[i].gone) = false := bne_eq_false_iff_eq.2 e2
              have d2 : (l[i].gone == m[i].gone) = true := beq_iff_eq.2 e2
              have d3 : ((strOf l[i].val).toList == (strOf m[i].val).toList) = false := str_eqD.trans (decide_eq_false e3)
              clear hno e0 e1 e2 e3
              go_upto_region 6 with (fail)
              refine wp_region_quiet_lit (by kernel_rfl) (by kernel_rfl) ?_
              repeat (first | go_big_quiet_step (fail) | (go_big_quiet_want; refine quiet_conv byP rfl rfl r1 ?_; go_big_quiet_on; go_simp) | (go_big_quiet_want; refine quiet_conv byP rfl rfl r2 ?_; go_big_quiet_on; go_simp) | (go_big_quiet_want; refine quiet_conv byP rfl rfl r3 ?_; go_big_quiet_on; go_simp) | (go_big_quiet_want; refine quiet_conv byP rfl rfl r4 ?_; go_big_quiet_on; go_simp))
              first | (refine wpQuiet_nil ?_; intro _ hw'; obtain ⟨nq, hw''⟩ := hw'; subst hw'') | intro nq
              go_wp2_with fail
              go_ret
              exact ⟨by rw [H.out]; rfl, Below.drewN q _⟩
          · have H := Lib.hid (show decide (l = m) = false from decide_eq_false fun h => e2 (by subst h; rfl))
            have dn0 : (l[i].table != m[i].table) = false := bne_eq_false_iff_eq.2 e0
            have d0 : (l[i].table == m[i].table) = true := beq_iff_eq.2 e0
            have dd0 : decide (l[i].table = m[i].table) = true := decide_eq_true e0
            have d1 : ((strOf l[i].key).toList == (strOf m[i].key).toList) = true := str_eqD.trans (decide_eq_true e1)
            have dn2 : (l[i].gone != m[i].gone) = true := bne_iff_ne.2 e2
            have d2 : (l[i].gone == m[i].gone) = false := beq_eq_false_iff_ne.2 e2
            clear hno e0 e1 e2
            go_upto_region 6 with (fail)
            refine wp_region_quiet_lit (by kernel_rfl) (by kernel_rfl) ?_
            repeat (first | go_big_quiet_step (fail) | (go_big_quiet_want; refine quiet_conv byP rfl rfl r1 ?_; go_big_quiet_on; go_simp) | (go_big_quiet_want; refine quiet_conv byP rfl rfl r2 ?_; go_big_quiet_on; go_simp) | (go_big_quiet_want; refine quiet_conv byP rfl rfl r3 ?_; go_big_quiet_on; go_simp) | (go_big_quiet_want; refine quiet_conv byP rfl rfl r4 ?_; go_big_quiet_on; go_simp))
            first | (refine wpQuiet_nil ?_; intro _ hw'; obtain ⟨nq, hw''⟩ := hw'; subst hw'') | intro nq
            go_wp2_with fail
            go_ret
            exact ⟨by rw [H.out]; rfl, Below.drewN q _⟩
        · have H := Lib.hid (show decide (l = m) = false from decide_eq_false fun h => e1 (by subst h; rfl))
          have dn0 : (l[i].table != m[i].table) = false := bne_eq_false_iff_eq.2 e0
          have d0 : (l[i].table == m[i].table) = true := beq_iff_eq.2 e0
          have dd0 : decide (l[i].table = m[i].table) = true := decide_eq_true e0
          have d1 : ((strOf l[i].key).toList == (strOf m[i].key).toList) = false := str_eqD.trans (decide_eq_false e1)
          clear hno e0 e1
          go_upto_region 6 with (fail)
          refine wp_region_quiet_lit (by kernel_rfl) (by kernel_rfl) ?_
          repeat (first | go_big_quiet_step (fail) | (go_big_quiet_want; refine quiet_conv byP rfl rfl r1 ?_; go_big_quiet_on; go_simp) | (go_big_quiet_want; refine quiet_conv byP rfl rfl r2 ?_; go_big_quiet_on; go_simp) | (go_big_quiet_want; refine quiet_conv byP rfl rfl r3 ?_; go_big_quiet_on; go_simp) | (go_big_quiet_want; refine quiet_conv byP rfl rfl r4 ?_; go_big_quiet_on; go_simp))
          first | (refine wpQuiet_nil ?_; intro _ hw'; obtain ⟨nq, hw''⟩ := hw'; subst hw'') | intro nq
          go_wp2_with fail
          go_ret
          exact ⟨by rw [H.out]; rfl, Below.drewN q _⟩
      · have H := Lib.hid (show decide (l = m) = false from decide_eq_false fun h => e0 (by subst h; rfl))
        have dn0 : (l[i].table != m[i].table) = true := bne_iff_ne.2 e0
        have d0 : (l[i].table == m[i].table) = false := beq_eq_false_iff_ne.2 e0
        have dd0 : decide (l[i].table = m[i].table) = false := decide_eq_false e0
        clear hno e0
        go_upto_region 6 with (fail)
        refine wp_region_quiet_lit (by kernel_rfl) (by kernel_rfl) ?_
        repeat (first | go_big_quiet_step (fail) | (go_big_quiet_want; refine quiet_conv byP rfl rfl r1 ?_; go_big_quiet_on; go_simp) | (go_big_quiet_want; refine quiet_conv byP rfl rfl r2 ?_; go_big_quiet_on; go_simp) | (go_big_quiet_want; refine quiet_conv byP rfl rfl r3 ?_; go_big_quiet_on; go_simp) | (go_big_quiet_want; refine quiet_conv byP rfl rfl r4 ?_; go_big_quiet_on; go_simp))
        first | (refine wpQuiet_nil ?_; intro _ hw'; obtain ⟨nq, hw''⟩ := hw'; subst hw'') | intro nq
        go_wp2_with fail
        go_ret
        exact ⟨by rw [H.out]; rfl, Below.drewN q _⟩
    · obtain rfl : i = l.length := by omega
      have H := Lib.hid (show decide (l = m) = true from decide_eq_true (by rw [List.take_length, hlen.out, List.take_length] at hno; exact hno))
      clear hno
      go_wp2_with fail
      go_ret
      exact ⟨by rw [H.out]; rfl, q⟩
end Go.Proofs.Ytobelnedhlepaaa
