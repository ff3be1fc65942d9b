/-
  LAWS ON SLICES OF BYTES, over whatever program: what it is to read as bytes ('Rd'), to be new memory that holds bytes ('Fresh'), and what build, append, slicing, conversion do with them. No condition beyond each theorem's own.
-/
import Derived.WalkKit
import Derived.WalkSpells
import Derived.WalkLawsBesides
import Derived.Laws.AppendOwnNone
import Derived.Deep.AppendSrc
import Derived.Deep.Draws
import Derived.Deep.Upon
import Derived.Lib.SlBytesConst
namespace Go.Proofs.Ytemdcpajcaaphaa
open Go.RowKit

/-- Bytes as cells. -/
def bv (xs : List UInt8) : List Value := xs.map fun b => Value.int .u8 (b.toNat : Int)
/-- Bytes as a string. -/
def strOf (xs : List UInt8) : ByteArray := ⟨xs.toArray⟩
theorem strOf_inj {xs ys : List UInt8} : strOf xs = strOf ys ↔ xs = ys := by simp [strOf]
theorem strOf_toList (xs : List UInt8) : (strOf xs).toList = xs := by simp [strOf]
theorem strEq {xs ys : List UInt8} (h : ¬ xs = ys) : ((strOf xs).toList == (strOf ys).toList) = false := by simpa [strOf_toList] using h
theorem strNe {xs ys : List UInt8} (h : ¬ xs = ys) : (!((strOf xs).toList == (strOf ys).toList)) = true := by simp [strEq h]
theorem bv_length (xs : List UInt8) : (bv xs).length = xs.length := by simp [bv]
theorem bv_append (xs ys : List UInt8) : bv (xs ++ ys) = bv xs ++ bv ys := by simp [bv]
theorem bv_get (xs : List UInt8) (k : Nat) (h : k < xs.length) : (bv xs)[k]? = some (.int .u8 xs[k].toNat) := by simp [bv, h]
theorem bv_one {xs : List UInt8} : ∀ u ∈ bv xs, u.oneCell' = true := by
  intro u hu; obtain ⟨b, _, rfl⟩ := List.mem_map.1 hu; rfl

/-- What a program must have: its types []byte, byte, string. -/
structure ByP (P : Program) (T E S : TypeId) : Prop where
  hT : P.underlying T = some (.slice E)
  hE : P.underlying E = some (.int .u8)
  hS : P.underlying S = some .string
  hi : (P.info? E).map (fun i => (i.zero, i.size, i.bytes)) = some (some (.int .u8 0), 1, 1)

theorem ByP.info {P : Program} {T E S : TypeId} (h : ByP P T E S) : ∃ i, P.info? E = some i ∧ i.zero = some (.int .u8 0) ∧ i.size = 1 ∧ i.bytes = 1 := by
  have := h.hi
  cases hi : P.info? E with
  | none => simp [hi] at this
  | some i => simp [hi] at this; exact ⟨i, rfl, this⟩

/-- The value reads as these bytes; its block lies below B. -/
def Rd (B : Nat) (w : World) (v : Value) (xs : List UInt8) : Prop :=
  (∃ a c, v = .slice a 0 c ∧ c ≤ maxLen ∧ xs = []) ∨
  ∃ b off cap, v = .slice (some ⟨b, off, none⟩) xs.length cap ∧ b < B ∧ xs.length ≤ cap ∧ cap ≤ maxLen ∧ ∀ j u, (bv xs)[j]? = some u → w.cell? ⟨b, off + j, none⟩ = some u

theorem Rd.nil (B : Nat) (w : World) : Rd B w (.slice none 0 0) [] := .inl ⟨none, 0, rfl, by unfold maxLen; omega, rfl⟩
theorem Rd.below {B : Nat} {w w' : World} {v : Value} {xs : List UInt8} (h : Rd B w v xs) (hb : Below B w w') : Rd B w' v xs := by
  rcases h with h | ⟨b, off, cap, hv, hB, h1, h2, hc⟩
  · exact .inl h
  · exact .inr ⟨b, off, cap, hv, hB, h1, h2, fun j u hj => (hb.cell (p := ⟨b, off + j, none⟩) hB).trans (hc j u hj)⟩
theorem Rd.mono {B B' : Nat} {w : World} {v : Value} {xs : List UInt8} (h : Rd B w v xs) (hB : B ≤ B') : Rd B' w v xs := by
  rcases h with h | ⟨b, off, cap, hv, hb, r⟩
  · exact .inl h
  · exact .inr ⟨b, off, cap, hv, by omega, r⟩
theorem Rd.drewN {B : Nat} {w : World} {v : Value} {xs : List UInt8} (h : Rd B w v xs) (q : Nat) : Rd B (w.drewN q) v xs := by
  rcases h with h | ⟨b, off, cap, hv, hB, h1, h2, hc⟩
  · exact .inl h
  · exact .inr ⟨b, off, cap, hv, hB, h1, h2, fun j u hj => hc j u hj⟩
theorem Rd.take {B : Nat} {w : World} {ad : Option Addr} {n c : Nat} {xs : List UInt8} (h : Rd B w (.slice ad n c) xs) (k : Nat) (hk : k ≤ xs.length) : Rd B w (.slice ad k c) (xs.take k) := by
  rcases h with ⟨a, c', h, hm, rfl⟩ | ⟨b, off, cap, h, hB, h1, h2, hc⟩
  · cases h
    obtain rfl : k = 0 := by simpa using hk
    exact .inl ⟨_, _, rfl, hm, rfl⟩
  · cases h
    refine .inr ⟨b, off, c, by simp [Nat.min_eq_left hk], hB, by simp; omega, h2, fun j u hj => hc j u ?_⟩
    rcases Nat.lt_or_ge j k with h | h
    · rw [← hj]; simp [bv, h]
    · rw [List.getElem?_eq_none (by simp [bv]; omega)] at hj; cases hj
theorem Below.drewN {B : Nat} {a w : World} (h : Below B a w) (q : Nat) : Below B a (w.drewN q) := ⟨h.os, h.tape, h.output, h.size, h.block⟩
theorem Rd.shape {B : Nat} {w : World} {v : Value} {xs : List UInt8} (h : Rd B w v xs) : ∃ a cap, v = .slice a xs.length cap ∧ xs.length ≤ cap ∧ xs.length ≤ maxLen := by
  rcases h with ⟨a, c, rfl, hm, rfl⟩ | ⟨b, off, cap, rfl, _, h1, h2, _⟩
  · exact ⟨a, c, rfl, by simp, by simp⟩
  · exact ⟨_, _, rfl, h1, by omega⟩
theorem Rd.len {B : Nat} {w : World} {a : Option Addr} {n c : Nat} {xs : List UInt8} (h : Rd B w (.slice a n c) xs) : n = xs.length ∧ n ≤ c ∧ c ≤ maxLen := by
  rcases h with ⟨a, c', h, hm, rfl⟩ | ⟨b, off, cap, h, _, h1, h2, _⟩
  · cases h; exact ⟨rfl, Nat.zero_le _, hm⟩
  · cases h; exact ⟨rfl, h1, h2⟩

/-- The slice is the call's own: it begins at the head of a row of its own, behind block 'base', and holds these bytes. -/
def Own (E : TypeId) (base : Nat) (w : World) (v : Value) (xs : List UInt8) : Prop := ∃ n, w.ownsRow base E 1 v n (bv xs)
/-- New memory, and nothing else: the slice owns its row, which begins behind all that was. -/
def Fresh (E : TypeId) (w w' : World) (v : Value) (xs : List UInt8) : Prop := Below w.heap.size w w' ∧ Own E w.heap.size w' v xs

section
variable {E : TypeId} {base : Nat} {w w' : World} {v : Value} {xs : List UInt8}
theorem own_n {n : Nat} (h : w.ownsRow base E 1 v n (bv xs)) : n = xs.length := by have := h.1; rw [bv_length] at this; omega
theorem Own.rd (h : Own E base w v xs) : Rd w.heap.size w v xs := by
  obtain ⟨n, h⟩ := h
  obtain rfl := own_n h
  rcases h.2 with ⟨rfl, h0⟩ | ⟨g, cap, cur, rfl, hb, hg, hn, hc, hcs, ht⟩
  · exact .inl ⟨none, 0, rfl, by unfold maxLen; omega, List.eq_nil_of_length_eq_zero h0⟩
  · refine .inr ⟨g, 0, cap, rfl, (Array.getElem?_eq_some_iff.1 hg).1, hn, hc, fun j u hj => ?_⟩
    have := h.cells (g := g) rfl j u hj
    simpa [Addr.add_lit] using this
theorem row_below {n : Nat} {ys : List Value} (h : w.ownsRow base E 1 v n ys) (hb : Below w.heap.size w w') : w'.ownsRow base E 1 v n ys := by
  refine ⟨h.1, ?_⟩
  rcases h.2 with h | ⟨g, cap, cur, hv, h1, hg, r⟩
  · exact .inl h
  · exact .inr ⟨g, cap, cur, hv, h1, (hb.block g (Array.getElem?_eq_some_iff.1 hg).1).trans hg, r⟩
theorem Own.below (h : Own E base w v xs) (hb : Below w.heap.size w w') : Own E base w' v xs := let ⟨n, h⟩ := h; ⟨n, row_below h hb⟩
theorem Own.shape (h : Own E base w v xs) : ∃ a k cap, v = .slice a k cap := by
  obtain ⟨n, h⟩ := h
  rcases h.2 with ⟨rfl, rfl⟩ | ⟨g, cap, cur, rfl, _, _, h1, h2, _⟩
  · exact ⟨none, 0, 0, rfl⟩
  · exact ⟨_, _, _, rfl⟩
theorem Own.to {base' : Nat} (h : Own E base w v xs) (hb : base' ≤ base) : Own E base' w v xs := by
  obtain ⟨n, h⟩ := h
  refine ⟨n, h.1, ?_⟩
  rcases h.2 with h | ⟨g, cap, cur, hv, h1, r⟩
  · exact .inl h
  · exact .inr ⟨g, cap, cur, hv, by omega, r⟩
theorem Own.len {a : Option Addr} {k c : Nat} (h : Own E base w (.slice a k c) xs) : k = xs.length := (Own.rd h).len.1
theorem Own.alloc (h : Own E base w v xs) (o : Obj) : Own E base (w.alloc o) v xs := let ⟨n, h⟩ := h; ⟨n, h.alloc o⟩
theorem Own.nil (E : TypeId) (base : Nat) (w : World) : Own E base w (.slice none 0 0) [] := ⟨0, World.ownsRow_nil _ _ _ _⟩
theorem Own.grown_below {B : Nat} (hown : Own E base w v xs) (hg : w.grownBy w' v.ownBlock) (hB : B ≤ base) (hBw : B ≤ w.heap.size) : Below B w w' :=
  (Below.refl B w).grown hg hBw (fun k hk => by obtain ⟨n, h⟩ := hown; have := (h.lt k hk).1; omega)
theorem Fresh.rd (h : Fresh E w w' v xs) : Rd w'.heap.size w' v xs := Own.rd h.2
theorem Fresh.nil (E : TypeId) (w : World) : Fresh E w w (.slice none 0 0) [] := ⟨Below.refl _ _, Own.nil _ _ _⟩
theorem Fresh.len {a : Option Addr} {k c : Nat} (h : Fresh E w w' (.slice a k c) xs) : k = xs.length := Own.len h.2
/-- Of something that was before: the memory is new to it, too. -/
theorem Fresh.later {w0 : World} (h0 : Below w0.heap.size w0 w) (h : Fresh E w w' v xs) : Fresh E w0 w' v xs := ⟨h0.trans (h.1.mono h0.size), h.2.to h0.size⟩
end

section
variable {P : Program} {T E S : TypeId}

theorem fill_ones : ∀ (vs : List Value) (k : Nat) (cells : Array Value), (∀ v ∈ vs, v.cells = #[v]) → k + vs.length ≤ cells.size →
    Instr.fill (fun i => some (i * 1, 1)) cells ((vs.zipIdx k).map fun p => (p.2, p.1)) = some (cells.toList.take k ++ vs ++ cells.toList.drop (k + vs.length)).toArray := by
  intro vs
  induction vs with
  | nil => intro k cells _ _; simp [Instr.fill]
  | cons v vs ih =>
    intro k cells h1 hk
    simp only [List.length_cons] at hk
    have hv : v.cells = #[v] := h1 v (by simp)
    simp only [List.zipIdx_cons, List.map_cons, Instr.fill, hv]
    rw [if_neg (by simp; omega)]
    rw [show (#[v].zipIdx.foldl (fun cs (p : Value × Nat) => cs.setIfInBounds (k * 1 + p.2) p.1) cells) = cells.setIfInBounds k v by simp]
    rw [ih (k + 1) _ (fun u hu => h1 u (by simp [hu])) (by simp; omega)]
    congr 1
    apply Array.ext'
    have hlt : k < cells.toList.length := by simp; omega
    have e1 : (cells.toList.set k v).take (k + 1) = cells.toList.take k ++ [v] := by
      rw [List.take_succ_eq_append_getElem (by simpa using hlt), List.take_set_of_le (Nat.le_refl _)]
      simp
    have e2 : (cells.toList.set k v).drop (k + 1 + vs.length) = cells.toList.drop (k + (vs.length + 1)) := by
      rw [List.drop_set_of_lt (by omega)]
      congr 1; omega
    simp only [Array.toList_setIfInBounds, List.length_cons, e1, e2]
    simp

theorem run_build (hP : ByP P T E S) (w : World) (xs : List UInt8) (hs : xs.length ≤ 16777216) :
    (Instr.buildSlice T xs.length ((bv xs).zipIdx.map fun p => (p.2, p.1)).toArray).run P w = .ok (.slice (some ⟨w.heap.size, 0, none⟩) xs.length xs.length) (w.alloc (.cells (bv xs).toArray E)) := by
  obtain ⟨i, hi, hz, hsz, hby⟩ := hP.info
  have hfill : ∀ (cells : Array Value), cells.size = xs.length → Instr.fill (fun i => some (i * 1, 1)) cells ((bv xs).zipIdx.map fun p => (p.2, p.1)) = some (bv xs).toArray := by
    intro cells hc
    rw [fill_ones (bv xs) 0 cells (fun v hv => by obtain ⟨b, _, rfl⟩ := List.mem_map.1 hv; rfl) (by rw [bv_length]; omega)]
    simp [bv_length]
    omega
  by_cases h0 : xs.length = 0
  · obtain rfl : xs = [] := List.eq_nil_of_length_eq_zero h0
    simp [Instr.buildSlice, run_underlying hP.hT, sizeOf, typeInfo, hi, Instr.fill, bv, newRow, show Array.range 0 = #[] from rfl]
  · have hf := hfill ((Array.range (xs.length * 1)).map (fun x => (#[Value.int .u8 0])[x % (#[Value.int .u8 0]).size]!)) (by simp)
    have hne : ¬ xs = [] := by intro h; apply h0; simp [h]
    have hbig : ¬ (16777216 < xs.length) := by omega
    simp [Instr.buildSlice, run_underlying hP.hT, sizeOf, typeInfo, zeroValue, hi, hz, hsz, newRow, hne, hbig, Value.cells] at hf ⊢
    simp [hf]

theorem fresh_build (E : TypeId) (w : World) (xs : List UInt8) (hs : xs.length ≤ 16777216) : Fresh E w (w.alloc (.cells (bv xs).toArray E)) (.slice (some ⟨w.heap.size, 0, none⟩) xs.length xs.length) xs := by
  refine ⟨(Below.refl _ _).alloc (Nat.le_refl _) _, xs.length, by simp [bv_length], .inr ⟨w.heap.size, xs.length, (bv xs).toArray, rfl, Nat.le_refl _, heap_alloc_new w _, Nat.le_refl _, by unfold maxLen; omega, by simp [bv_length], ?_⟩⟩
  rw [List.take_of_length_le (by simp [bv_length])]

variable {ops : Array Oper} {rest : List Oper} {o : Oper} {a : Act} {Q : Exit → Act → World → Prop} {w : World}

/-- '[]byte{..}'. -/
theorem wpList_build (hP : ByP P T E S) {n : Nat} {parts : Array (Nat × Operand)} (ho : o.op = .buildSlice T n parts) (hgd : Region.wanted o (yielded ops a.tmps) = true) (xs : List UInt8)
    (hv : (parts.map fun p => (p.1, a.eval p.2)) = ((bv xs).zipIdx.map fun p => (p.2, p.1)).toArray) (hn : n = xs.length) (hs : xs.length ≤ 16777216)
    (h : ∀ g k w', Fresh E w w' (.slice (some ⟨g, 0, none⟩) k k) xs → wpList P ops Q rest (a.put o.dst (.slice (some ⟨g, 0, none⟩) k k)) w') : wpList P ops Q (o :: rest) a w := by
  refine BigFrame.wpList_want hgd fun K hK => ?_
  have hrun := run_build hP w xs hs
  subst hn
  unfold Oper.wp execOp
  simp only [ho, hv, Sem.run_bind, Sem.run_pure, Result.andThen_ok, hrun]
  exact hK _ _ (h _ _ _ (fresh_build E w xs hs))

/-- The parts of a literal are these bytes. -/
def litB : List (Nat × Operand) → List UInt8 → Nat → Bool
  | [], [], _ => true
  | (i, .const (.int .u8 v)) :: ps, x :: xs, k => i == k && v == (x.toNat : Int) && litB ps xs (k + 1)
  | _, _, _ => false
theorem litB_eq (a : Act) : ∀ (ps : List (Nat × Operand)) (xs : List UInt8) (k : Nat), litB ps xs k = true → (ps.map fun p => (p.1, a.eval p.2)) = ((bv xs).zipIdx k).map fun p => (p.2, p.1)
  | [], [], _, _ => rfl
  | (i, .const (.int .u8 v)) :: ps, x :: xs, k, h => by
    simp only [litB, Bool.and_eq_true, beq_iff_eq] at h
    obtain ⟨⟨rfl, rfl⟩, h⟩ := h
    have := litB_eq a ps xs (i + 1) h
    simp only [List.map_cons, this]
    simp [bv, Act.eval]
  | [], _ :: _, _, h => by simp [litB] at h
  | (i, .const (.int .u8 v)) :: ps, [], _, h => by simp [litB] at h

/-- '[]byte{..}' of constants. -/
theorem wpList_lit (hP : ByP P T E S) {n : Nat} {parts : Array (Nat × Operand)} (ho : o.op = .buildSlice T n parts) (xs : List UInt8)
    (hn : n = xs.length) (hv : litB parts.toList xs 0 = true) (hgd : Region.wanted o (yielded ops a.tmps) = true)
    (h : ∀ g k w', Fresh E w w' (.slice (some ⟨g, 0, none⟩) k k) xs → wpList P ops Q rest (a.put o.dst (.slice (some ⟨g, 0, none⟩) k k)) w') (hs : xs.length ≤ 16777216) : wpList P ops Q (o :: rest) a w := by
  refine wpList_build hP ho hgd xs ?_ hn hs h
  have := litB_eq a parts.toList xs 0 hv
  rw [← this]
  apply Array.ext'
  simp

theorem run_append_rd (hP : ByP P T E S) (w : World) {base B : Nat} (ty : TypeId) {v x : Value} {ys xs : List UInt8} (hown : Own E base w v ys) (hx : Rd B w x xs)
    (hbase : base ≤ w.heap.size) (hlen : ys.length + xs.length ≤ 1073741824) :
    ∃ v' w', (Builtin.append_ #[T, T] ty #[v, x]).run P w = .ok v' w' ∧ Own E base w' v' (ys ++ xs) ∧ w.grownBy w' v.ownBlock := by
  obtain ⟨i, hi, hz, hsz, hby⟩ := hP.info
  obtain ⟨n, hown⟩ := hown
  obtain rfl := own_n hown
  rcases hx with ⟨ax, cx, rfl, _, rfl⟩ | ⟨b, off, cap, rfl, _, _, _, hc⟩
  · have hsrc : Src P i.size T (.slice ax 0 cx) 0 [] w := by
      cases ax with
      | none => exact Src.ofNil w hP.hT cx
      | some p => exact Src.ofSlice w hP.hT p 0 cx [] (by simp) (fun j u h => by simp at h) (fun u h => by cases h)
    obtain ⟨av, kv, cv, rfl⟩ : ∃ a k c, v = .slice a k c := Own.shape ⟨_, hown⟩
    have hle : kv ≤ cv := (Own.rd ⟨_, hown⟩).len.2.1
    refine ⟨_, w, run_append_nothing w T T ty E i hP.hT hi av kv cv hle _ hsrc, ⟨ys.length, by simpa using hown⟩, ⟨rfl, rfl, rfl, Nat.le_refl _, fun _ _ _ => rfl⟩⟩
  · obtain ⟨v', w', h1, h2, h3, _⟩ := run_append_own (P := P) w base T ty E i (.int .u8 0) 1 1 hP.hT hi hz hsz hby rfl (by decide) v ys.length (bv ys) hown ⟨b, off, none⟩ xs.length cap (bv xs) (by simp [bv_length])
      (fun j u hj => by simpa [Addr.add_lit] using hc j u hj) bv_one (by unfold maxLen; omega) (by omega) hbase
    exact ⟨v', w', h1, ⟨_, by simpa [bv_append] using h2⟩, h3⟩

/-- '[]byte("..")': the two operations together. -/
theorem wpList_const (hP : ByP P T E S) {o' : Oper} {n : Nat} {parts : Array (Nat × Operand)} {d : Tmp} (ho : o.op = .buildSlice T n parts) (hgd' : ∀ u, Region.wanted o' (yielded ops (a.put o.dst u).tmps) = true) (hgd : Region.wanted o (yielded ops a.tmps) = true) (hd : o.dst = some d) (hlt : d < a.tmps.size)
    (ho' : o'.op = .convert T T (.tmp d)) (xs : List UInt8)
    (hv : (parts.map fun p => (p.1, a.eval p.2)) = ((bv xs).zipIdx.map fun p => (p.2, p.1)).toArray) (hn : n = xs.length) (hs : xs.length ≤ 16777216)
    (h : ∀ u g k w', Below w.heap.size w w' → Rd w'.heap.size w' (.slice (some ⟨g, 0, none⟩) k k) xs → wpList P ops Q rest ((a.put (some d) u).put o'.dst (.slice (some ⟨g, 0, none⟩) k k)) w') : wpList P ops Q (o :: o' :: rest) a w := by
  refine BigFrame.wpList_want hgd fun K hK => ?_
  have hrun := run_build hP w xs hs
  subst hn
  unfold Oper.wp execOp
  simp only [ho, hv, Sem.run_bind, Sem.run_pure, Result.andThen_ok, hrun]
  refine hK _ _ ?_
  have hgd2 := hgd' (.slice (some ⟨w.heap.size, 0, none⟩) xs.length xs.length)
  rw [hd] at hgd2 ⊢
  refine BigFrame.wpList_want hgd2 fun K' hK' => ?_
  have hrun2 := Lib.run_convert_bytes_const (P := P) w T E (bv xs).toArray xs.length xs.length hP.hT hP.hE
  have he : (a.put (some d) (.slice (some ⟨w.heap.size, 0, none⟩) xs.length xs.length)).eval (.tmp d) = .slice (some ⟨w.heap.size, 0, none⟩) xs.length xs.length := by simp [Act.eval, Act.put, hlt]
  unfold Oper.wp execOp
  simp only [ho', he, Sem.run_bind, Sem.run_pure, Result.andThen_ok, hrun2]
  refine hK' _ _ (h _ _ _ _ ((Below.refl _ _).alloc (Nat.le_refl _) _) (.inr ⟨w.heap.size, 0, xs.length, rfl, by simp, Nat.le_refl _, by unfold maxLen; omega, fun j u hj => ?_⟩))
  rw [Nat.zero_add, World.cell?]
  simp only [World.alloc, Array.getElem?_push_size]
  simpa using hj

/-- 'append(v, x...)', v the call's own. -/
theorem wpList_append (hP : ByP P T E S) {s x : Operand} (ho : o.op = .call { callee := .builtin .append, args := #[s, x], argTypes := #[T, T] }) (hgd : Region.wanted o (yielded ops a.tmps) = true)
    {base B : Nat} {vs vx : Value} {ys xs : List UInt8} (hs : a.eval s = vs) (hown : Own E base w vs ys) (hx : a.eval x = vx) (hr : Rd B w vx xs)
    (hbase : base ≤ w.heap.size)
    (h : ∀ ad k cap w', Own E base w' (.slice ad k cap) (ys ++ xs) → w.grownBy w' vs.ownBlock → Below base w w' → wpList P ops Q rest (a.put o.dst (.slice ad k cap)) w') (hlen : ys.length + xs.length ≤ 1073741824) : wpList P ops Q (o :: rest) a w := by
  refine BigFrame.wpList_want hgd fun K hK => ?_
  obtain ⟨v', w', hrun, h2, h3⟩ := run_append_rd hP w o.type hown hr hbase hlen
  obtain ⟨ad, k, cap, rfl⟩ := Own.shape h2
  unfold Oper.wp execOp
  simp only [ho, resolve, invoke, builtin, Sem.run_bind, Sem.run_pure, Result.andThen_ok, List.map_toArray, List.map_cons, List.map_nil, hs, hx, hrun]
  exact hK _ _ (h _ _ _ _ h2 h3 (Own.grown_below hown h3 (Nat.le_refl _) hbase))

/-- 'append(v, c)', one byte: the two operations together; v the call's own. -/
theorem wpList_append1 (hP : ByP P T E S) {o' : Oper} {y s : Operand} {d : Tmp} (ho : o.op = .buildSlice T 1 #[(0, y)]) (hgd' : ∀ u, Region.wanted o' (yielded ops (a.put o.dst u).tmps) = true) (hgd : Region.wanted o (yielded ops a.tmps) = true) (hd : o.dst = some d) (hlt : d < a.tmps.size)
    (ho' : o'.op = .call { callee := .builtin .append, args := #[s, .tmp d], argTypes := #[T, T] })
    {base : Nat} {vs : Value} {ys : List UInt8} (c : UInt8) (hs : ∀ u, (a.put (some d) u).eval s = vs) (hy : a.eval y = .int .u8 (c.toNat : Int)) (hown : Own E base w vs ys)
    (hbase : base ≤ w.heap.size)
    (h : ∀ u ad k cap w', Own E base w' (.slice ad k cap) (ys ++ [c]) → Below base w w' → wpList P ops Q rest ((a.put (some d) u).put o'.dst (.slice ad k cap)) w') (hlen : ys.length ≤ 1073741823) : wpList P ops Q (o :: o' :: rest) a w := by
  refine wpList_build hP ho hgd [c] (by simp [bv, hy]) rfl (by simp) fun g k w1 hf => ?_
  have hgd2 := hgd' (.slice (some ⟨g, 0, none⟩) k k)
  rw [hd] at hgd2 ⊢
  refine wpList_append hP ho' hgd2 (base := base) (hs _) (hown.below hf.1) (x := .tmp d) (vx := .slice (some ⟨g, 0, none⟩) k k) (by simp [Act.eval, Act.put, hlt]) hf.rd (Nat.le_trans hbase hf.1.size) (fun ad k cap w2 h2 _ hb => h _ _ _ _ _ h2 ((hf.1.mono hbase).trans hb)) (by simp; omega)

theorem run_conv (hP : ByP P T E S) {B : Nat} {w : World} {v : Value} {xs : List UInt8} (h : Rd B w v xs) : (convert T S v).run P w = .ok (.string (strOf xs)) w := by
  rcases h with ⟨ax, cx, rfl, _, rfl⟩ | ⟨b, off, cap, rfl, _, _, _, hc⟩
  · cases ax with
    | none => exact run_convert_bytes_nil w T E hP.hT hP.hE 0 cx S hP.hS
    | some p =>
      rw [run_convert_bytes_string w T S E _ 0 cx hP.hT hP.hE hP.hS, run_bytesToString w p 0 cx [] (by simp [loadCells, loadCellsFrom])]
      rfl
  · rw [run_convert_bytes_arg w T E hP.hT hP.hE b off xs.length cap (xs.map fun x => (x.toNat : Int)) (by simp) (fun i hi => by
      have := hc i (.int .u8 (xs[i].toNat : Int)) (by simp [bv, hi])
      rw [this]; simp [List.getD, hi]) S hP.hS]
    simp [strOfNums, strOf, Function.comp_def]

/-- 'string(b)'. -/
theorem wpList_conv (hP : ByP P T E S) {x : Operand} (ho : o.op = .convert T S x) {B : Nat} {v : Value} {xs : List UInt8} (hx : a.eval x = v) (hgd : Region.wanted o (yielded ops a.tmps) = true) (hr : Rd B w v xs)
    (h : wpList P ops Q rest (a.put o.dst (.string (strOf xs))) w) : wpList P ops Q (o :: rest) a w := by
  refine BigFrame.wpList_want hgd fun K hK => ?_
  unfold Oper.wp execOp
  simp only [ho, hx, Sem.run_bind, Sem.run_pure, Result.andThen_ok, run_conv hP hr]
  exact hK _ _ h

theorem run_bounds_l (w : World) {n c l : Nat} (h : l ≤ n) : (Instr.sliceBounds true n c (some (.int .i64 l)) none none).run P w = .ok (l, n, c) w := by
  simp [Instr.sliceBounds, Instr.sliceBound, asIntOf, h]
theorem run_bounds_l' (w : World) {n c l : Nat} {i : Int} (hi : i = (l : Int)) (h : l ≤ n) : (Instr.sliceBounds true n c (some (.int .i64 i)) none none).run P w = .ok (l, n, c) w := by
  rw [hi]; exact run_bounds_l w h
theorem run_bounds_h (w : World) {n c h : Nat} (hh : h ≤ c) : (Instr.sliceBounds true n c none (some (.int .i64 h)) none).run P w = .ok (0, h, c) w := by
  simp [Instr.sliceBounds, Instr.sliceBound, asIntOf, hh]
theorem run_bounds_lh (w : World) {n c l h : Nat} (hl : l ≤ h) (hh : h ≤ c) : (Instr.sliceBounds true n c (some (.int .i64 l)) (some (.int .i64 h)) none).run P w = .ok (l, h, c) w := by
  simp [Instr.sliceBounds, Instr.sliceBound, asIntOf, hl, hh]

theorem run_bounds_lh' (w : World) {n c l h : Nat} {i j : Int} (hi : i = (l : Int)) (hj : j = (h : Int)) (hl : l ≤ h) (hh : h ≤ c) : (Instr.sliceBounds true n c (some (.int .i64 i)) (some (.int .i64 j)) none).run P w = .ok (l, h, c) w := by
  rw [hi, hj]; exact run_bounds_lh w hl hh
theorem run_bounds_h' (w : World) {n c h : Nat} {j : Int} (hj : j = (h : Int)) (hh : h ≤ c) : (Instr.sliceBounds true n c none (some (.int .i64 j)) none).run P w = .ok (0, h, c) w := by
  rw [hj]; exact run_bounds_h w hh

theorem run_slice_rd (hP : ByP P T E S) {B : Nat} {w : World} {ad : Option Addr} {n c l r : Nat} {lo hi : Option Value} {xs : List UInt8} (h : Rd B w (.slice ad n c) xs)
    (hb : (Instr.sliceBounds true n c lo hi none).run P w = .ok (l, r, c) w) (hl : l ≤ r) (hr : r ≤ xs.length) :
    ∃ ad' c', (Instr.slice T (.slice ad n c) lo hi none).run P w = .ok (.slice ad' (r - l) c') w ∧ Rd B w (.slice ad' (r - l) c') ((xs.drop l).take (r - l)) := by
  obtain ⟨i, hi', hz, hsz, hby⟩ := hP.info
  have hlen : ((xs.drop l).take (r - l)).length = r - l := by simp; omega
  refine ⟨if c = l then ad else ad.map (·.add (l * 1)), c - l, ?_, ?_⟩
  · simp [Instr.slice, run_underlying hP.hT, hb, sizeOf, typeInfo, hi', hsz]
  · rcases h with ⟨a, c', h, hm, rfl⟩ | ⟨b, off, cap, h, hB, h1, h2, hc⟩
    · cases h
      simp at hr; subst hr
      have : l = 0 := by omega
      subst this
      exact .inl ⟨_, _, rfl, by omega, by simp⟩
    · cases h
      refine .inr ⟨b, if c = l then off else off + l, c - l, ?_, hB, by omega, by omega, ?_⟩
      · rw [hlen]
        split
        · rfl
        · simp [Addr.add_lit]
      · intro j u hj
        have hjl : j < r - l := by
          rcases Nat.lt_or_ge j (r - l) with h | h
          · exact h
          · rw [List.getElem?_eq_none (by rw [bv_length, hlen]; exact h)] at hj; cases hj
        have hne : ¬ c = l := by omega
        rw [if_neg hne, Nat.add_assoc]
        refine hc (l + j) u ?_
        rw [← hj]
        simp [bv, hjl]

/-- 'x[lo:hi]'. -/
theorem wpList_slice (hP : ByP P T E S) {x : Operand} {lo hi : Option Operand} (ho : o.op = .slice T x lo hi none) (hgd : Region.wanted o (yielded ops a.tmps) = true) {B : Nat} {ad : Option Addr} {n c : Nat} {xs : List UInt8} (hx : a.eval x = .slice ad n c) (hr : Rd B w (.slice ad n c) xs)
    {l r : Nat} (hb : (Instr.sliceBounds true n c (lo.map a.eval) (hi.map a.eval) none).run P w = .ok (l, r, c) w) 
    (h : ∀ ad' k c', Rd B w (.slice ad' k c') ((xs.drop l).take (r - l)) → wpList P ops Q rest (a.put o.dst (.slice ad' k c')) w) (hl : l ≤ r) (hrn : r ≤ xs.length) : wpList P ops Q (o :: rest) a w := by
  refine BigFrame.wpList_want hgd fun K hK => ?_
  obtain ⟨ad', c', hrun, h2⟩ := run_slice_rd hP hr hb hl hrn
  unfold Oper.wp execOp
  have hat : (Instr.sliceAt T (.slice ad n c) (lo.map a.eval) (hi.map a.eval) none).run P w = .ok (.slice ad' (r - l) c') w := by
    rw [show (Instr.sliceAt T (.slice ad n c) (lo.map a.eval) (hi.map a.eval) none).run P w = (Instr.slice T (.slice ad n c) (lo.map a.eval) (hi.map a.eval) none).run P w by simp [Instr.sliceAt, run_underlying hP.hT]]; exact hrun
  simp only [ho, hx, Option.map_none, Sem.run_bind, Sem.run_pure, Result.andThen_ok, hat]
  exact hK _ _ (h _ _ _ h2)
end

/-- What is known: values that read as bytes, their blocks all below B. -/
def Known (B : Nat) (w : World) (l : List (Value × List UInt8)) : Prop := B ≤ w.heap.size ∧ ∀ p ∈ l, Rd B w p.1 p.2
theorem Known.nil (w : World) : Known w.heap.size w [] := ⟨Nat.le_refl _, by simp⟩
theorem Known.cons {B : Nat} {w : World} {l : List (Value × List UInt8)} {v : Value} {xs : List UInt8} (h : Known B w l) (hv : Rd B w v xs) : Known B w ((v, xs) :: l) :=
  ⟨h.1, fun p hp => by rcases List.mem_cons.1 hp with rfl | hp <;> first | exact hv | exact h.2 p hp⟩
theorem Known.get {B : Nat} {w : World} {l : List (Value × List UInt8)} {v : Value} {xs : List UInt8} (h : Known B w l) (hm : (v, xs) ∈ l) : Rd B w v xs := h.2 _ hm
theorem Known.at {B : Nat} {w : World} {l : List (Value × List UInt8)} (h : Known B w l) (i : Nat) {v : Value} {xs : List UInt8} (hm : l[i]? = some (v, xs)) : Rd B w v xs := h.2 _ (List.mem_of_getElem? hm)
theorem Known.below {B : Nat} {w w' : World} {l : List (Value × List UInt8)} (h : Known B w l) (hb : Below B w w') : Known B w' l :=
  ⟨Nat.le_trans h.1 hb.size, fun p hp => (h.2 p hp).below hb⟩
theorem Known.up {B : Nat} {w : World} {l : List (Value × List UInt8)} (h : Known B w l) : Known w.heap.size w l := ⟨Nat.le_refl _, fun p hp => (h.2 p hp).mono h.1⟩
/-- Behind a call that makes new memory alone. -/
theorem Known.step {B : Nat} {w w' : World} {l : List (Value × List UInt8)} (h : Known B w l) (hb : Below w.heap.size w w') : Known w'.heap.size w' l := (h.up.below hb).up
theorem Known.add {B : Nat} {w w' : World} {l : List (Value × List UInt8)} {v : Value} {xs : List UInt8} (h : Known B w l) (hb : Below w.heap.size w w') (hr : Rd w'.heap.size w' v xs) : Known w'.heap.size w' ((v, xs) :: l) :=
  (h.step hb).cons hr
theorem Known.fresh {B : Nat} {w w' : World} {l : List (Value × List UInt8)} {E : TypeId} {v : Value} {xs : List UInt8} (h : Known B w l) (hf : Fresh E w w' v xs) : Known w'.heap.size w' ((v, xs) :: l) :=
  (h.step hf.1).cons hf.rd
end Go.Proofs.Ytemdcpajcaaphaa
