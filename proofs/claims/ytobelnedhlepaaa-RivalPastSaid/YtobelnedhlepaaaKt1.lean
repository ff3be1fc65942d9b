/-
  TEXTS OF ONE PROOF, merged: Byte, Elt, Soft, Ell, Ops, Tri, Row, Ope, Guard, Aux, Kept, Box, Ltb.
-/
import Derived.Below
import Derived.BigFrame
import Derived.ChangeAlike
import Derived.ChangeSame
import Derived.ChangeSlices
import Derived.Deep.AppendSrc
import Derived.Deep.Draws
import Derived.Deep.Matrix
import Derived.Deep.Slices
import Derived.Deep.Strs
import Derived.Deep.Upon
import Derived.IntWalk
import Derived.Laws.AppendOwnNone
import Derived.Laws.MakeOwn
import Derived.Laws.OwnMore
import Derived.Laws.Tables
import Derived.Lib.Hide
import Derived.Lib.SlBytesConst
import Derived.Maps.AppendAt
import Derived.OpenShut
import Derived.Orders
import Derived.ProofKit
import Derived.RangeFuncBox
import Derived.RegionTactic
import Derived.Test.YtobelnedhlepaaaProg
import Derived.WalkKit
import Derived.WalkLawsBesides
import Derived.WalkSpells
namespace Go.Proofs.Ytobelnedhlepaaa
open Go.RowKit
def bv (xs : List UInt8) : List Value := xs.map fun b => Value.int .u8 (b.toNat : Int)
def strOf (xs : List UInt8) : ByteArray := ⟨xs.toArray⟩
theorem bv_length (xs : List UInt8) : (bv xs).length = xs.length := by simp [bv]
theorem bv_append (xs ys : List UInt8) : bv (xs ++ ys) = bv xs ++ bv ys := by simp [bv]
theorem bv_get (xs : List UInt8) (k : Nat) (h : k < xs.length) : (bv xs)[k]? = some (.int .u8 xs[k].toNat) := by simp [bv, h]
theorem bv_one {xs : List UInt8} : ∀ u ∈ bv xs, u.oneCell' = true := by
  intro u hu; obtain ⟨b, _, rfl⟩ := List.mem_map.1 hu; rfl
structure ByP (P : Program) (T E S : TypeId) : Prop where
  hT : P.underlying T = some (.slice E)
  hE : P.underlying E = some (.int .u8)
  hS : P.underlying S = some .string
  hi : (P.info? E).map (fun i => (i.zero, i.size, i.bytes)) = some (some (.int .u8 0), 1, 1)
theorem ByP.info {P : Program} {T E S : TypeId} (h : ByP P T E S) : ∃ i, P.info? E = some i ∧ i.zero = some (.int .u8 0) ∧ i.size = 1 ∧ i.bytes = 1 := by
  have := h.hi
  cases hi : P.info? E with
  | none => simp [hi] at this
  | some i => simp [hi] at this; exact ⟨i, rfl, this⟩
def Rd (B : Nat) (w : World) (v : Value) (xs : List UInt8) : Prop :=
  (∃ a c, v = .slice a 0 c ∧ c ≤ maxLen ∧ xs = []) ∨
  ∃ b off cap, v = .slice (some ⟨b, off, none⟩) xs.length cap ∧ b < B ∧ xs.length ≤ cap ∧ cap ≤ maxLen ∧ ∀ j u, (bv xs)[j]? = some u → w.cell? ⟨b, off + j, none⟩ = some u
theorem Rd.nil (B : Nat) (w : World) : Rd B w (.slice none 0 0) [] := .inl ⟨none, 0, rfl, by unfold maxLen; omega, rfl⟩
theorem Rd.below {B : Nat} {w w' : World} {v : Value} {xs : List UInt8} (h : Rd B w v xs) (hb : Below B w w') : Rd B w' v xs := by
  rcases h with h | ⟨b, off, cap, hv, hB, h1, h2, hc⟩
  · exact .inl h
  · exact .inr ⟨b, off, cap, hv, hB, h1, h2, fun j u hj => (hb.cell (p := ⟨b, off + j, none⟩) hB).trans (hc j u hj)⟩
theorem Below.drewN {B : Nat} {a w : World} (h : Below B a w) (q : Nat) : Below B a (w.drewN q) := ⟨h.os, h.tape, h.output, h.size, h.block⟩
theorem Rd.len {B : Nat} {w : World} {a : Option Addr} {n c : Nat} {xs : List UInt8} (h : Rd B w (.slice a n c) xs) : n = xs.length ∧ n ≤ c ∧ c ≤ maxLen := by
  rcases h with ⟨a, c', h, hm, rfl⟩ | ⟨b, off, cap, h, _, h1, h2, _⟩
  · cases h; exact ⟨rfl, Nat.zero_le _, hm⟩
  · cases h; exact ⟨rfl, h1, h2⟩
def Own (E : TypeId) (base : Nat) (w : World) (v : Value) (xs : List UInt8) : Prop := ∃ n, w.ownsRow base E 1 v n (bv xs)
def Fresh (E : TypeId) (w w' : World) (v : Value) (xs : List UInt8) : Prop := Below w.heap.size w w' ∧ Own E w.heap.size w' v xs
section
variable {E : TypeId} {base : Nat} {w w' : World} {v : Value} {xs : List UInt8}
theorem own_n {n : Nat} (h : w.ownsRow base E 1 v n (bv xs)) : n = xs.length := by have := h.1; rw [bv_length] at this; omega
theorem Own.rd (h : Own E base w v xs) : Rd w.heap.size w v xs := by
  obtain ⟨n, h⟩ := h
  obtain rfl := own_n h
  rcases h.2 with ⟨rfl, h0⟩ | ⟨g, cap, cur, rfl, hb, hg, hn, hc, hcs, ht⟩
  · exact .inl ⟨none, 0, rfl, by unfold maxLen; omega, List.eq_nil_of_length_eq_zero h0⟩
  · refine .inr ⟨g, 0, cap, rfl, (Array.getElem?_eq_some_iff.1 hg).1, hn, hc, fun j u hj => ?_⟩
    have := h.cells (g := g) rfl j u hj
    simpa [Addr.add_lit] using this
theorem row_below {n : Nat} {ys : List Value} (h : w.ownsRow base E 1 v n ys) (hb : Below w.heap.size w w') : w'.ownsRow base E 1 v n ys := by
  refine ⟨h.1, ?_⟩
  rcases h.2 with h | ⟨g, cap, cur, hv, h1, hg, r⟩
  · exact .inl h
  · exact .inr ⟨g, cap, cur, hv, h1, (hb.block g (Array.getElem?_eq_some_iff.1 hg).1).trans hg, r⟩
theorem Own.below (h : Own E base w v xs) (hb : Below w.heap.size w w') : Own E base w' v xs := let ⟨n, h⟩ := h; ⟨n, row_below h hb⟩
theorem Own.shape (h : Own E base w v xs) : ∃ a k cap, v = .slice a k cap := by
  obtain ⟨n, h⟩ := h
  rcases h.2 with ⟨rfl, rfl⟩ | ⟨g, cap, cur, rfl, _, _, h1, h2, _⟩
  · exact ⟨none, 0, 0, rfl⟩
  · exact ⟨_, _, _, rfl⟩
theorem Own.to {base' : Nat} (h : Own E base w v xs) (hb : base' ≤ base) : Own E base' w v xs := by
  obtain ⟨n, h⟩ := h
  refine ⟨n, h.1, ?_⟩
  rcases h.2 with h | ⟨g, cap, cur, hv, h1, r⟩
  · exact .inl h
  · exact .inr ⟨g, cap, cur, hv, by omega, r⟩
theorem Own.len {a : Option Addr} {k c : Nat} (h : Own E base w (.slice a k c) xs) : k = xs.length := (Own.rd h).len.1
theorem Own.nil (E : TypeId) (base : Nat) (w : World) : Own E base w (.slice none 0 0) [] := ⟨0, World.ownsRow_nil _ _ _ _⟩
theorem Own.grown_below {B : Nat} (hown : Own E base w v xs) (hg : w.grownBy w' v.ownBlock) (hB : B ≤ base) (hBw : B ≤ w.heap.size) : Below B w w' :=
  (Below.refl B w).grown hg hBw (fun k hk => by obtain ⟨n, h⟩ := hown; have := (h.lt k hk).1; omega)
theorem Fresh.rd (h : Fresh E w w' v xs) : Rd w'.heap.size w' v xs := Own.rd h.2
theorem Fresh.nil (E : TypeId) (w : World) : Fresh E w w (.slice none 0 0) [] := ⟨Below.refl _ _, Own.nil _ _ _⟩
theorem Fresh.len {a : Option Addr} {k c : Nat} (h : Fresh E w w' (.slice a k c) xs) : k = xs.length := Own.len h.2
end
section
variable {P : Program} {T E S : TypeId}
theorem fill_ones : ∀ (vs : List Value) (k : Nat) (cells : Array Value), (∀ v ∈ vs, v.cells = #[v]) → k + vs.length ≤ cells.size →
    Instr.fill (fun i => some (i * 1, 1)) cells ((vs.zipIdx k).map fun p => (p.2, p.1)) = some (cells.toList.take k ++ vs ++ cells.toList.drop (k + vs.length)).toArray := by
  intro vs
  induction vs with
  | nil => intro k cells _ _; simp [Instr.fill]
  | cons v vs ih =>
    intro k cells h1 hk
    simp only [List.length_cons] at hk
    have hv : v.cells = #[v] := h1 v (by simp)
    simp only [List.zipIdx_cons, List.map_cons, Instr.fill, hv]
    rw [if_neg (by simp; omega)]
    rw [show (#[v].zipIdx.foldl (fun cs (p : Value × Nat) => cs.setIfInBounds (k * 1 + p.2) p.1) cells) = cells.setIfInBounds k v by simp]
    rw [ih (k + 1) _ (fun u hu => h1 u (by simp [hu])) (by simp; omega)]
    congr 1
    apply Array.ext'
    have hlt : k < cells.toList.length := by simp; omega
    have e1 : (cells.toList.set k v).take (k + 1) = cells.toList.take k ++ [v] := by
      rw [List.take_succ_eq_append_getElem (by simpa using hlt), List.take_set_of_le (Nat.le_refl _)]
      simp
    have e2 : (cells.toList.set k v).drop (k + 1 + vs.length) = cells.toList.drop (k + (vs.length + 1)) := by
      rw [List.drop_set_of_lt (by omega)]
      congr 1; omega
    simp only [Array.toList_setIfInBounds, List.length_cons, e1, e2]
    simp
theorem run_build (hP : ByP P T E S) (w : World) (xs : List UInt8) (hs : xs.length ≤ 16777216) :
    (Instr.buildSlice T xs.length ((bv xs).zipIdx.map fun p => (p.2, p.1)).toArray).run P w = .ok (.slice (some ⟨w.heap.size, 0, none⟩) xs.length xs.length) (w.alloc (.cells (bv xs).toArray E)) := by
  obtain ⟨i, hi, hz, hsz, hby⟩ := hP.info
  have hfill : ∀ (cells : Array Value), cells.size = xs.length → Instr.fill (fun i => some (i * 1, 1)) cells ((bv xs).zipIdx.map fun p => (p.2, p.1)) = some (bv xs).toArray := by
    intro cells hc
    rw [fill_ones (bv xs) 0 cells (fun v hv => by obtain ⟨b, _, rfl⟩ := List.mem_map.1 hv; rfl) (by rw [bv_length]; omega)]
    simp [bv_length]
    omega
  by_cases h0 : xs.length = 0
  · obtain rfl : xs = [] := List.eq_nil_of_length_eq_zero h0
    simp [Instr.buildSlice, run_underlying hP.hT, sizeOf, typeInfo, hi, Instr.fill, bv, newRow, show Array.range 0 = #[] from rfl]
  · have hf := hfill ((Array.range (xs.length * 1)).map (fun x => (#[Value.int .u8 0])[x % (#[Value.int .u8 0]).size]!)) (by simp)
    have hne : ¬ xs = [] := by intro h; apply h0; simp [h]
    have hbig : ¬ (16777216 < xs.length) := by omega
    simp [Instr.buildSlice, run_underlying hP.hT, sizeOf, typeInfo, zeroValue, hi, hz, hsz, newRow, hne, hbig, Value.cells] at hf ⊢
    simp [hf]
theorem fresh_build (E : TypeId) (w : World) (xs : List UInt8) (hs : xs.length ≤ 16777216) : Fresh E w (w.alloc (.cells (bv xs).toArray E)) (.slice (some ⟨w.heap.size, 0, none⟩) xs.length xs.length) xs := by
  refine ⟨(Below.refl _ _).alloc (Nat.le_refl _) _, xs.length, by simp [bv_length], .inr ⟨w.heap.size, xs.length, (bv xs).toArray, rfl, Nat.le_refl _, heap_alloc_new w _, Nat.le_refl _, by unfold maxLen; omega, by simp [bv_length], ?_⟩⟩
  rw [List.take_of_length_le (by simp [bv_length])]
variable {ops : Array Oper} {rest : List Oper} {o : Oper} {a : Act} {Q : Exit → Act → World → Prop} {w : World}
theorem wpList_build (hP : ByP P T E S) {n : Nat} {parts : Array (Nat × Operand)} (ho : o.op = .buildSlice T n parts) (hgd : Region.wanted o (yielded ops a.tmps) = true) (xs : List UInt8)
    (hv : (parts.map fun p => (p.1, a.eval p.2)) = ((bv xs).zipIdx.map fun p => (p.2, p.1)).toArray) (hn : n = xs.length) (hs : xs.length ≤ 16777216)
    (h : ∀ g k w', Fresh E w w' (.slice (some ⟨g, 0, none⟩) k k) xs → wpList P ops Q rest (a.put o.dst (.slice (some ⟨g, 0, none⟩) k k)) w') : wpList P ops Q (o :: rest) a w := by
  refine BigFrame.wpList_want hgd fun K hK => ?_
  have hrun := run_build hP w xs hs
  subst hn
  unfold Oper.wp execOp
  simp only [ho, hv, Sem.run_bind, Sem.run_pure, Result.andThen_ok, hrun]
  exact hK _ _ (h _ _ _ (fresh_build E w xs hs))
theorem run_append_rd (hP : ByP P T E S) (w : World) {base B : Nat} (ty : TypeId) {v x : Value} {ys xs : List UInt8} (hown : Own E base w v ys) (hx : Rd B w x xs)
    (hbase : base ≤ w.heap.size) (hlen : ys.length + xs.length ≤ 1073741824) :
    ∃ v' w', (Builtin.append_ #[T, T] ty #[v, x]).run P w = .ok v' w' ∧ Own E base w' v' (ys ++ xs) ∧ w.grownBy w' v.ownBlock := by
  obtain ⟨i, hi, hz, hsz, hby⟩ := hP.info
  obtain ⟨n, hown⟩ := hown
  obtain rfl := own_n hown
  rcases hx with ⟨ax, cx, rfl, _, rfl⟩ | ⟨b, off, cap, rfl, _, _, _, hc⟩
  · have hsrc : Src P i.size T (.slice ax 0 cx) 0 [] w := by
      cases ax with
      | none => exact Src.ofNil w hP.hT cx
      | some p => exact Src.ofSlice w hP.hT p 0 cx [] (by simp) (fun j u h => by simp at h) (fun u h => by cases h)
    obtain ⟨av, kv, cv, rfl⟩ : ∃ a k c, v = .slice a k c := Own.shape ⟨_, hown⟩
    have hle : kv ≤ cv := (Own.rd ⟨_, hown⟩).len.2.1
    refine ⟨_, w, run_append_nothing w T T ty E i hP.hT hi av kv cv hle _ hsrc, ⟨ys.length, by simpa using hown⟩, ⟨rfl, rfl, rfl, Nat.le_refl _, fun _ _ _ => rfl⟩⟩
  · obtain ⟨v', w', h1, h2, h3, _⟩ := run_append_own (P := P) w base T ty E i (.int .u8 0) 1 1 hP.hT hi hz hsz hby rfl (by decide) v ys.length (bv ys) hown ⟨b, off, none⟩ xs.length cap (bv xs) (by simp [bv_length])
      (fun j u hj => by simpa [Addr.add_lit] using hc j u hj) bv_one (by unfold maxLen; omega) (by omega) hbase
    exact ⟨v', w', h1, ⟨_, by simpa [bv_append] using h2⟩, h3⟩
theorem wpList_append (hP : ByP P T E S) {s x : Operand} (ho : o.op = .call { callee := .builtin .append, args := #[s, x], argTypes := #[T, T] }) (hgd : Region.wanted o (yielded ops a.tmps) = true)
    {base B : Nat} {vs vx : Value} {ys xs : List UInt8} (hs : a.eval s = vs) (hown : Own E base w vs ys) (hx : a.eval x = vx) (hr : Rd B w vx xs)
    (hbase : base ≤ w.heap.size)
    (h : ∀ ad k cap w', Own E base w' (.slice ad k cap) (ys ++ xs) → w.grownBy w' vs.ownBlock → Below base w w' → wpList P ops Q rest (a.put o.dst (.slice ad k cap)) w') (hlen : ys.length + xs.length ≤ 1073741824) : wpList P ops Q (o :: rest) a w := by
  refine BigFrame.wpList_want hgd fun K hK => ?_
  obtain ⟨v', w', hrun, h2, h3⟩ := run_append_rd hP w o.type hown hr hbase hlen
  obtain ⟨ad, k, cap, rfl⟩ := Own.shape h2
  unfold Oper.wp execOp
  simp only [ho, resolve, invoke, builtin, Sem.run_bind, Sem.run_pure, Result.andThen_ok, List.map_toArray, List.map_cons, List.map_nil, hs, hx, hrun]
  exact hK _ _ (h _ _ _ _ h2 h3 (Own.grown_below hown h3 (Nat.le_refl _) hbase))
theorem wpList_append1 (hP : ByP P T E S) {o' : Oper} {y s : Operand} {d : Tmp} (ho : o.op = .buildSlice T 1 #[(0, y)]) (hgd' : ∀ u, Region.wanted o' (yielded ops (a.put o.dst u).tmps) = true) (hgd : Region.wanted o (yielded ops a.tmps) = true) (hd : o.dst = some d) (hlt : d < a.tmps.size)
    (ho' : o'.op = .call { callee := .builtin .append, args := #[s, .tmp d], argTypes := #[T, T] })
    {base : Nat} {vs : Value} {ys : List UInt8} (c : UInt8) (hs : ∀ u, (a.put (some d) u).eval s = vs) (hy : a.eval y = .int .u8 (c.toNat : Int)) (hown : Own E base w vs ys)
    (hbase : base ≤ w.heap.size)
    (h : ∀ u ad k cap w', Own E base w' (.slice ad k cap) (ys ++ [c]) → Below base w w' → wpList P ops Q rest ((a.put (some d) u).put o'.dst (.slice ad k cap)) w') (hlen : ys.length ≤ 1073741823) : wpList P ops Q (o :: o' :: rest) a w := by
  refine wpList_build hP ho hgd [c] (by simp [bv, hy]) rfl (by simp) fun g k w1 hf => ?_
  have hgd2 := hgd' (.slice (some ⟨g, 0, none⟩) k k)
  rw [hd] at hgd2 ⊢
  refine wpList_append hP ho' hgd2 (base := base) (hs _) (hown.below hf.1) (x := .tmp d) (vx := .slice (some ⟨g, 0, none⟩) k k) (by simp [Act.eval, Act.put, hlt]) hf.rd (Nat.le_trans hbase hf.1.size) (fun ad k cap w2 h2 _ hb => h _ _ _ _ _ h2 ((hf.1.mono hbase).trans hb)) (by simp; omega)
theorem run_conv (hP : ByP P T E S) {B : Nat} {w : World} {v : Value} {xs : List UInt8} (h : Rd B w v xs) : (convert T S v).run P w = .ok (.string (strOf xs)) w := by
  rcases h with ⟨ax, cx, rfl, _, rfl⟩ | ⟨b, off, cap, rfl, _, _, _, hc⟩
  · cases ax with
    | none => exact run_convert_bytes_nil w T E hP.hT hP.hE 0 cx S hP.hS
    | some p =>
      rw [run_convert_bytes_string w T S E _ 0 cx hP.hT hP.hE hP.hS, run_bytesToString w p 0 cx [] (by simp [loadCells, loadCellsFrom])]
      rfl
  · rw [run_convert_bytes_arg w T E hP.hT hP.hE b off xs.length cap (xs.map fun x => (x.toNat : Int)) (by simp) (fun i hi => by
      have := hc i (.int .u8 (xs[i].toNat : Int)) (by simp [bv, hi])
      rw [this]; simp [List.getD, hi]) S hP.hS]
    simp [strOfNums, strOf, Function.comp_def]
theorem wpList_conv (hP : ByP P T E S) {x : Operand} (ho : o.op = .convert T S x) {B : Nat} {v : Value} {xs : List UInt8} (hx : a.eval x = v) (hgd : Region.wanted o (yielded ops a.tmps) = true) (hr : Rd B w v xs)
    (h : wpList P ops Q rest (a.put o.dst (.string (strOf xs))) w) : wpList P ops Q (o :: rest) a w := by
  refine BigFrame.wpList_want hgd fun K hK => ?_
  unfold Oper.wp execOp
  simp only [ho, hx, Sem.run_bind, Sem.run_pure, Result.andThen_ok, run_conv hP hr]
  exact hK _ _ h
theorem run_bounds_h (w : World) {n c h : Nat} (hh : h ≤ c) : (Instr.sliceBounds true n c none (some (.int .i64 h)) none).run P w = .ok (0, h, c) w := by
  simp [Instr.sliceBounds, Instr.sliceBound, asIntOf, hh]
theorem run_bounds_h' (w : World) {n c h : Nat} {j : Int} (hj : j = (h : Int)) (hh : h ≤ c) : (Instr.sliceBounds true n c none (some (.int .i64 j)) none).run P w = .ok (0, h, c) w := by
  rw [hj]; exact run_bounds_h w hh
end
end Go.Proofs.Ytobelnedhlepaaa
namespace Go.Proofs.Ytobelnedhlepaaa
open Go.RowKit
def RdS (S : Nat → Prop) (w : World) (v : Value) (xs : List UInt8) : Prop :=
  (∃ a c, v = .slice a 0 c ∧ c ≤ maxLen ∧ xs = []) ∨
  ∃ b off cap, v = .slice (some ⟨b, off, none⟩) xs.length cap ∧ S b ∧ xs.length ≤ cap ∧ cap ≤ maxLen ∧ ∀ j u, (bv xs)[j]? = some u → w.cell? ⟨b, off + j, none⟩ = some u
theorem Rd.s {B : Nat} {w : World} {v : Value} {xs : List UInt8} (h : Rd B w v xs) : RdS (· < B) w v xs := h
theorem cell_keep {w w' : World} {b : Nat} (h : w'.heap[b]? = w.heap[b]?) (o : Nat) : w'.cell? ⟨b, o, none⟩ = w.cell? ⟨b, o, none⟩ := by simp [World.cell?, h]
theorem cell_lt {w : World} {b o : Nat} {u : Value} (h : w.cell? ⟨b, o, none⟩ = some u) : b < w.heap.size := World.block_lt_of_cell? w _ h
section
variable {S S' : Nat → Prop} {w w' : World} {v : Value} {xs : List UInt8}
theorem RdS.keep (h : RdS S w v xs) (hk : ∀ k, S k → w'.heap[k]? = w.heap[k]?) : RdS S w' v xs := by
  rcases h with h | ⟨b, off, cap, hv, hb, h1, h2, hc⟩
  · exact .inl h
  · exact .inr ⟨b, off, cap, hv, hb, h1, h2, fun j u hj => (cell_keep (hk b hb) _).trans (hc j u hj)⟩
theorem RdS.weak (h : RdS S w v xs) (hs : ∀ k, S k → S' k) : RdS S' w v xs := by
  rcases h with h | ⟨b, off, cap, hv, hb, h1, h2, hc⟩
  · exact .inl h
  · exact .inr ⟨b, off, cap, hv, hs b hb, h1, h2, hc⟩
theorem RdS.fit (h : RdS S w v xs) : RdS (fun k => S k ∧ k < w.heap.size) w v xs := by
  rcases h with h | ⟨b, off, cap, hv, hb, h1, h2, hc⟩
  · exact .inl h
  · by_cases h0 : xs = []
    · subst h0; exact .inl ⟨_, _, hv, h2, rfl⟩
    · have hpos : 0 < xs.length := List.length_pos_iff.2 h0
      exact .inr ⟨b, off, cap, hv, ⟨hb, cell_lt (hc 0 _ (bv_get xs 0 hpos))⟩, h1, h2, hc⟩
theorem RdS.rd (h : RdS S w v xs) : Rd w.heap.size w v xs := h.fit.weak (fun _ h => h.2)
theorem RdS.shape (h : RdS S w v xs) : ∃ a c, v = .slice a xs.length c ∧ xs.length ≤ c ∧ c ≤ maxLen := by
  rcases h with ⟨a, c, rfl, hm, rfl⟩ | ⟨b, off, cap, rfl, _, h1, h2, _⟩
  · exact ⟨a, c, rfl, Nat.zero_le _, hm⟩
  · exact ⟨_, _, rfl, h1, h2⟩
theorem RdS.len {a : Option Addr} {n c : Nat} (h : RdS S w (.slice a n c) xs) : n = xs.length ∧ n ≤ c ∧ c ≤ maxLen := by
  obtain ⟨_, _, e, h1, h2⟩ := h.shape
  cases e
  exact ⟨rfl, h1, h2⟩
theorem RdS.below (h : RdS S w v xs) (hb : Below w.heap.size w w') : RdS S w' v xs :=
  (h.fit.keep fun k hk => hb.block k hk.2).weak (fun _ h => h.1)
theorem RdS.one (h : RdS S w v xs) : v.oneCell' = true := by
  obtain ⟨_, _, rfl, _⟩ := h.shape; rfl
theorem RdS.nil (S : Nat → Prop) (w : World) : RdS S w (.slice none 0 0) [] := .inl ⟨none, 0, rfl, by unfold maxLen; omega, rfl⟩
theorem Own.rdS {E : TypeId} {base : Nat} (h : Own E base w v xs) : RdS (fun k => base ≤ k ∧ k < w.heap.size) w v xs := by
  obtain ⟨n, h⟩ := h
  have hr := Own.rd ⟨n, h⟩
  rcases h.2 with ⟨rfl, h0⟩ | ⟨g, cap, cur, rfl, hb, hg, hn, hc, hcs, ht⟩
  · obtain rfl := own_n h
    exact .inl ⟨none, 0, rfl, by unfold maxLen; omega, List.eq_nil_of_length_eq_zero h0⟩
  · rcases hr with h | ⟨b, off, cap', hv, hb', h1, h2, h3⟩
    · exact .inl h
    · cases hv
      exact .inr ⟨_, _, _, rfl, ⟨hb, hb'⟩, h1, h2, h3⟩
end
structure Elt (α : Type) where
  size : Nat
  pos : 0 < size
  R : (Nat → Prop) → World → α → List Value → Prop
  len : ∀ {S w x vs}, R S w x vs → vs.length = size
  keep : ∀ {S w w' x vs}, R S w x vs → (∀ k, S k → w'.heap[k]? = w.heap[k]?) → R S w' x vs
  weak : ∀ {S S' w x vs}, R S w x vs → (∀ k, S k → S' k) → R S' w x vs
  fit : ∀ {S w x vs}, R S w x vs → R (fun k => S k ∧ k < w.heap.size) w x vs
  one : ∀ {S w x vs}, R S w x vs → ∀ u ∈ vs, u.oneCell' = true
section
variable {α : Type} {E : Elt α} {S S' : Nat → Prop} {w w' : World} {v : Value} {xs : List α}
theorem Elt.below {x : α} {vs : List Value} (h : E.R S w x vs) (hb : Below w.heap.size w w') : E.R S w' x vs :=
  E.weak (E.keep (E.fit h) fun k hk => hb.block k hk.2) (fun _ h => h.1)
def RdL (E : Elt α) (S : Nat → Prop) (w : World) (v : Value) (xs : List α) : Prop :=
  ∃ a cap, v = .slice a xs.length cap ∧ xs.length ≤ cap ∧ cap ≤ maxLen ∧ (xs = [] ∨ ∃ b off, a = some ⟨b, off, none⟩ ∧ S b ∧
    ∀ r (h : r < xs.length), ∃ vs, E.R S w xs[r] vs ∧ ∀ j u, vs[j]? = some u → w.cell? ⟨b, off + r * E.size + j, none⟩ = some u)
theorem RdL.nil (E : Elt α) (S : Nat → Prop) (w : World) : RdL E S w (.slice none 0 0) [] := ⟨none, 0, rfl, Nat.le_refl _, by unfold maxLen; omega, .inl rfl⟩
theorem RdL.shape (h : RdL E S w v xs) : ∃ a c, v = .slice a xs.length c ∧ xs.length ≤ c ∧ c ≤ maxLen := let ⟨a, c, h1, h2, h3, _⟩ := h; ⟨a, c, h1, h2, h3⟩
theorem RdL.len {a : Option Addr} {n c : Nat} (h : RdL E S w (.slice a n c) xs) : n = xs.length ∧ n ≤ c ∧ c ≤ maxLen := by
  obtain ⟨_, _, e, h1, h2⟩ := h.shape
  cases e
  exact ⟨rfl, h1, h2⟩
theorem RdL.keep (h : RdL E S w v xs) (hk : ∀ k, S k → w'.heap[k]? = w.heap[k]?) : RdL E S w' v xs := by
  obtain ⟨a, cap, h1, h2, h3, h4⟩ := h
  refine ⟨a, cap, h1, h2, h3, h4.imp id fun ⟨b, off, e, hb, hr⟩ => ⟨b, off, e, hb, fun r h => ?_⟩⟩
  obtain ⟨vs, hR, hc⟩ := hr r h
  exact ⟨vs, E.keep hR hk, fun j u hj => (cell_keep (hk b hb) _).trans (hc j u hj)⟩
theorem RdL.weak (h : RdL E S w v xs) (hs : ∀ k, S k → S' k) : RdL E S' w v xs := by
  obtain ⟨a, cap, h1, h2, h3, h4⟩ := h
  refine ⟨a, cap, h1, h2, h3, h4.imp id fun ⟨b, off, e, hb, hr⟩ => ⟨b, off, e, hs b hb, fun r h => ?_⟩⟩
  obtain ⟨vs, hR, hc⟩ := hr r h
  exact ⟨vs, E.weak hR hs, hc⟩
theorem RdL.fit (h : RdL E S w v xs) : RdL E (fun k => S k ∧ k < w.heap.size) w v xs := by
  obtain ⟨a, cap, h1, h2, h3, h4⟩ := h
  by_cases h0 : xs = []
  · exact ⟨a, cap, h1, h2, h3, .inl h0⟩
  obtain ⟨b, off, e, hb, hr⟩ := h4.resolve_left h0
  have hpos : 0 < xs.length := List.length_pos_iff.2 h0
  have hlt : b < w.heap.size := by
    obtain ⟨vs, hR, hc⟩ := hr 0 hpos
    have hl := E.len hR
    have hp := E.pos
    exact cell_lt (hc 0 vs[0] (List.getElem?_eq_getElem (by omega)))
  refine ⟨a, cap, h1, h2, h3, .inr ⟨b, off, e, ⟨hb, hlt⟩, fun r h => ?_⟩⟩
  obtain ⟨vs, hR, hc⟩ := hr r h
  exact ⟨vs, E.fit hR, hc⟩
theorem RdL.below (h : RdL E S w v xs) (hb : Below w.heap.size w w') : RdL E S w' v xs := (h.fit.keep fun k hk => hb.block k hk.2).weak (fun _ h => h.1)
theorem RdL.at {a : Option Addr} {n c : Nat} (h : RdL E S w (.slice a n c) xs) (r : Nat) (hr : r < xs.length) :
    ∃ b off vs, a = some ⟨b, off, none⟩ ∧ S b ∧ E.R S w xs[r] vs ∧ ∀ j u, vs[j]? = some u → w.cell? ⟨b, off + r * E.size + j, none⟩ = some u := by
  obtain ⟨a', cap, h1, h2, h3, h4⟩ := h
  cases h1
  rcases h4 with rfl | ⟨b, off, e, hb, hq⟩
  · exact absurd hr (Nat.not_lt_zero _)
  · obtain ⟨vs, hR, hc⟩ := hq r hr
    exact ⟨b, off, vs, e, hb, hR, hc⟩
theorem RdL.part {a : Option Addr} {n c : Nat} (h : RdL E S w (.slice a n c) xs) {l r : Nat} (hl : l ≤ r) (hr : r ≤ xs.length) :
    RdL E S w (.slice (if c = l then a else a.map (·.add (l * E.size))) (r - l) (c - l)) ((xs.drop l).take (r - l)) := by
  obtain ⟨a', cap, h1, h2, h3, h4⟩ := h
  cases h1
  have hlen : ((xs.drop l).take (r - l)).length = r - l := by simp; omega
  refine ⟨_, _, by rw [hlen], by omega, by omega, ?_⟩
  by_cases h0 : r = l
  · exact .inl (by subst h0; simp)
  rcases h4 with rfl | ⟨b, off, rfl, hb, hq⟩
  · simp at hr; omega
  · refine .inr ⟨b, off + l * E.size, ?_, hb, fun i hi => ?_⟩
    · rw [if_neg (by omega)]
      simp [Addr.add_lit]
    · rw [hlen] at hi
      obtain ⟨vs, hR, hc⟩ := hq (l + i) (by omega)
      refine ⟨vs, by simpa using hR, fun j u hj => ?_⟩
      have := hc j u hj
      rw [show off + l * E.size + i * E.size + j = off + (l + i) * E.size + j by rw [Nat.add_mul]; omega]
      exact this
end
def Elt.list {α : Type} (E : Elt α) : Elt (List α) where
  size := 1
  pos := Nat.one_pos
  R S w xs vs := ∃ v, vs = [v] ∧ RdL E S w v xs
  len := by rintro _ _ _ _ ⟨_, rfl, _⟩; rfl
  keep := by rintro _ _ _ _ _ ⟨v, rfl, h⟩ hk; exact ⟨v, rfl, h.keep hk⟩
  weak := by rintro _ _ _ _ _ ⟨v, rfl, h⟩ hk; exact ⟨v, rfl, h.weak hk⟩
  fit := by rintro _ _ _ _ ⟨v, rfl, h⟩; exact ⟨v, rfl, h.fit⟩
  one := by
    rintro _ _ _ _ ⟨v, rfl, h⟩ u hu
    obtain rfl : u = v := by simpa using hu
    obtain ⟨_, _, rfl, _⟩ := h.shape
    rfl
def Elt.bytes : Elt (List UInt8) where
  size := 1
  pos := Nat.one_pos
  R S w xs vs := ∃ v, vs = [v] ∧ RdS S w v xs
  len := by rintro _ _ _ _ ⟨_, rfl, _⟩; rfl
  keep := by rintro _ _ _ _ _ ⟨v, rfl, h⟩ hk; exact ⟨v, rfl, h.keep hk⟩
  weak := by rintro _ _ _ _ _ ⟨v, rfl, h⟩ hk; exact ⟨v, rfl, h.weak hk⟩
  fit := by rintro _ _ _ _ ⟨v, rfl, h⟩; exact ⟨v, rfl, h.fit⟩
  one := by
    rintro _ _ _ _ ⟨v, rfl, h⟩ u hu
    obtain rfl : u = v := by simpa using hu
    exact h.one
section
variable {α : Type} {E : Elt α} {P : Program} {T Te : TypeId} {ops : Array Oper} {rest : List Oper} {o : Oper} {a : Act} {Q : Exit → Act → World → Prop} {w : World} {K : Act → World → Prop}
structure LsP (P : Program) (T Te : TypeId) (n : Nat) : Prop where
  hT : P.underlying T = some (.slice Te)
  hn : (P.info? Te).map (·.size) = some n
theorem LsP.info {n : Nat} (h : LsP P T Te n) : ∃ i, P.info? Te = some i ∧ i.size = n := by
  have := h.hn
  cases hi : P.info? Te with
  | none => simp [hi] at this
  | some i => simp [hi] at this; exact ⟨i, rfl, this⟩
theorem run_sliceL {n : Nat} (hP : LsP P T Te n) {ad : Option Addr} {len c l r : Nat} {lo hi : Option Value} (hb : (Instr.sliceBounds true len c lo hi none).run P w = .ok (l, r, c) w) :
    (Instr.sliceAt T (.slice ad len c) lo hi none).run P w = .ok (.slice (if c = l then ad else ad.map (·.add (l * n))) (r - l) (c - l)) w := by
  obtain ⟨i, hi', hsz⟩ := hP.info
  simp [Instr.sliceAt, Instr.slice, run_underlying hP.hT, hb, sizeOf, typeInfo, hi', hsz]
theorem wpList_sliceL (hP : LsP P T Te E.size) {x : Operand} {lo hi : Option Operand} (ho : o.op = .slice T x lo hi none) (hgd : Region.wanted o (yielded ops a.tmps) = true) {S : Nat → Prop} {ad : Option Addr} {n c : Nat} {xs : List α} (hx : a.eval x = .slice ad n c) (hr : RdL E S w (.slice ad n c) xs)
    {l r : Nat} (hb : (Instr.sliceBounds true n c (lo.map a.eval) (hi.map a.eval) none).run P w = .ok (l, r, c) w)
    (h : ∀ ad' c', RdL E S w (.slice ad' (r - l) c') ((xs.drop l).take (r - l)) → wpList P ops Q rest (a.put o.dst (.slice ad' (r - l) c')) w) (hl : l ≤ r) (hrn : r ≤ xs.length) : wpList P ops Q (o :: rest) a w := by
  refine BigFrame.wpList_want hgd fun K hK => ?_
  unfold Oper.wp execOp
  simp only [ho, hx, Option.map_none, Sem.run_bind, Sem.run_pure, Result.andThen_ok, run_sliceL hP hb]
  exact hK _ _ (h _ _ (hr.part hl hrn))
end
end Go.Proofs.Ytobelnedhlepaaa
namespace Go.Proofs.Ytobelnedhlepaaa
open Go.RowKit
def putAll (a : Act) : List Oper → (Nat → Value) → Nat → Act
  | [], _, _ => a
  | o :: rest, vs, k => putAll (a.put o.dst (vs k)) rest vs (k + 1)
def upd (vs : Nat → Value) (i : Nat) (v : Value) : Nat → Value := fun j => if j = i then v else vs j
theorem put_put (a : Act) (d : Option Tmp) (u v : Value) : (a.put d u).put d v = a.put d v := by
  cases d with
  | none => rfl
  | some d => simp [Act.put]
theorem put_comm (a : Act) {d d' : Option Tmp} (h : d = none ∨ d ≠ d') (u v : Value) : (a.put d u).put d' v = (a.put d' v).put d u := by
  cases d with
  | none => rfl
  | some d =>
    cases d' with
    | none => rfl
    | some d' =>
      have hne : d ≠ d' := by rcases h with h | h; · cases h
                              · exact fun e => h (by rw [e])
      simp only [Act.put]
      rw [Array.setIfInBounds_comm _ _ hne]
theorem put_self (a : Act) (d : Tmp) : a.put (some d) (a.tmps.getD d undef) = a := by
  cases a with
  | mk tmps defers =>
    simp only [Act.put]
    congr 1
    apply Array.ext
    · simp
    · intro i h1 h2
      rw [Array.getElem_setIfInBounds]
      split
      · rename_i e; subst e; simp [Array.getD, h2]
      · rfl
theorem putAll_congr : ∀ (l : List Oper) (a : Act) (vs us : Nat → Value) (k : Nat), (∀ j, j < l.length → vs (k + j) = us (k + j)) → putAll a l vs k = putAll a l us k
  | [], _, _, _, _, _ => rfl
  | o :: rest, a, vs, us, k, h => by
    simp only [putAll]
    have h0 := h 0 (by simp)
    rw [Nat.add_zero] at h0
    rw [h0]
    exact putAll_congr rest _ vs us (k + 1) (fun j hj => by have := h (j + 1) (by simp; omega); rw [show k + 1 + j = k + (j + 1) by omega]; exact this)
theorem putAll_out : ∀ (l : List Oper) (a : Act) (vs : Nat → Value) (k : Nat) (d : Option Tmp) (v : Value), (∀ o ∈ l, d = none ∨ o.dst = none ∨ o.dst ≠ d) → (putAll a l vs k).put d v = putAll (a.put d v) l vs k
  | [], _, _, _, _, _, _ => rfl
  | o :: rest, a, vs, k, d, v, h => by
    simp only [putAll]
    rw [putAll_out rest _ vs (k + 1) d v (fun o' ho => h o' (List.mem_cons_of_mem _ ho))]
    congr 1
    rcases h o (List.mem_cons_self) with h | h | h
    · subst h; rfl
    · rw [h]; rfl
    · exact put_comm a (.inr h) _ _
def slotsB (l : List Oper) : Bool := (l.filterMap (·.dst)).Nodup
theorem putAll_put : ∀ (l : List Oper) (a : Act) (vs : Nat → Value) (k j : Nat) (o : Oper) (v : Value), (l.filterMap (·.dst)).Nodup → l[j]? = some o →
    (putAll a l vs k).put o.dst v = putAll a l (upd vs (k + j) v) k
  | [], _, _, _, _, _, _, _, h => by simp at h
  | o' :: rest, a, vs, k, 0, o, v, hn, h => by
    obtain rfl : o' = o := by simpa using h
    simp only [putAll, Nat.add_zero]
    rw [putAll_out rest _ vs (k + 1) o'.dst v, put_put]
    · rw [show upd vs k v k = v by simp [upd]]
      exact putAll_congr rest _ _ _ _ (fun j _ => by simp [upd]; omega)
    · intro o2 ho2
      cases hd : o'.dst with
      | none => exact .inl rfl
      | some d =>
        refine .inr ?_
        cases hd2 : o2.dst with
        | none => exact .inl rfl
        | some d2 =>
          refine .inr fun e => ?_
          cases e
          rw [List.filterMap_cons_some hd, List.nodup_cons] at hn
          exact hn.1 (List.mem_filterMap.2 ⟨o2, ho2, hd2⟩)
  | o' :: rest, a, vs, k, j + 1, o, v, hn, h => by
    simp only [putAll]
    have hn' : (rest.filterMap (·.dst)).Nodup := by
      cases hd : o'.dst with
      | none => rwa [List.filterMap_cons_none hd] at hn
      | some d => rw [List.filterMap_cons_some hd, List.nodup_cons] at hn; exact hn.2
    rw [putAll_put rest _ vs (k + 1) j o v hn' (by simpa using h), show k + 1 + j = k + (j + 1) by omega]
    rw [show upd vs (k + (j + 1)) v k = vs k by simp [upd]]
theorem putAll_orig : ∀ (l : List Oper) (a : Act) (vs : Nat → Value) (k : Nat), (∀ j o d, l[j]? = some o → o.dst = some d → vs (k + j) = a.tmps.getD d undef) → putAll a l vs k = a
  | [], _, _, _, _ => rfl
  | o :: rest, a, vs, k, h => by
    simp only [putAll]
    have e : a.put o.dst (vs k) = a := by
      cases hd : o.dst with
      | none => rfl
      | some d =>
        have q := h 0 o d rfl hd
        rw [Nat.add_zero] at q
        rw [q]; exact put_self a d
    rw [e]
    exact putAll_orig rest a vs (k + 1) (fun j o' d hj hd => by rw [show k + 1 + j = k + (j + 1) by omega]; exact h (j + 1) o' d (by simpa using hj) hd)
def slotIx : List Oper → Nat → Tmp → Option Nat
  | [], _, _ => none
  | o :: rest, k, t => if o.dst = some t then some k else slotIx rest (k + 1) t
theorem size_put (a : Act) (d : Option Tmp) (v : Value) : (a.put d v).tmps.size = a.tmps.size := by cases d <;> simp [Act.put]
theorem eval_put_ne (a : Act) {d : Option Tmp} {t : Tmp} (h : d ≠ some t) (v : Value) : (a.put d v).eval (.tmp t) = a.eval (.tmp t) := by
  cases d with
  | none => rfl
  | some d =>
    have : d ≠ t := fun e => h (by rw [e])
    simp only [Act.eval, Act.put, Array.getD_eq_getD_getElem?, Array.getElem?_setIfInBounds_ne this]
theorem eval_put_eq (a : Act) {t : Tmp} (h : t < a.tmps.size) (v : Value) : (a.put (some t) v).eval (.tmp t) = v := by
  simp [Act.eval, Act.put, h]
theorem eval_putAll_out : ∀ (l : List Oper) (a : Act) (vs : Nat → Value) (k : Nat) (t : Tmp), slotIx l k t = none → (putAll a l vs k).eval (.tmp t) = a.eval (.tmp t)
  | [], _, _, _, _, _ => rfl
  | o :: rest, a, vs, k, t, h => by
    simp only [slotIx] at h
    split at h
    · cases h
    · rename_i hne
      simp only [putAll]
      rw [eval_putAll_out rest _ vs (k + 1) t h, eval_put_ne a hne]
theorem eval_putAll_in : ∀ (l : List Oper) (a : Act) (vs : Nat → Value) (k : Nat) (t : Tmp) (j : Nat), (l.filterMap (·.dst)).Nodup → t < a.tmps.size → slotIx l k t = some j → (putAll a l vs k).eval (.tmp t) = vs j
  | [], _, _, _, _, _, _, _, h => by simp [slotIx] at h
  | o :: rest, a, vs, k, t, j, hn, ht, h => by
    simp only [slotIx] at h
    simp only [putAll]
    split at h
    · rename_i he
      obtain rfl : k = j := by simpa using h
      have hout : ∀ (l : List Oper) (k : Nat), (∀ o ∈ l, o.dst ≠ some t) → slotIx l k t = none := by
        intro l
        induction l with
        | nil => intro _ _; rfl
        | cons o2 r ih => intro k hh; simp only [slotIx]; rw [if_neg (hh o2 (by simp))]; exact ih _ (fun o3 h3 => hh o3 (by simp [h3]))
      rw [List.filterMap_cons_some he, List.nodup_cons] at hn
      rw [eval_putAll_out rest _ vs (k + 1) t (hout rest (k + 1) (fun o2 h2 e => hn.1 (List.mem_filterMap.2 ⟨o2, h2, e⟩))), he, eval_put_eq a ht]
    · have hn' : (rest.filterMap (·.dst)).Nodup := by
        cases hd : o.dst with
        | none => rwa [List.filterMap_cons_none hd] at hn
        | some d => rw [List.filterMap_cons_some hd, List.nodup_cons] at hn; exact hn.2
      exact eval_putAll_in rest _ vs (k + 1) t j hn' (by rw [size_put]; exact ht) h
section
variable {P : Program} {Q : Exit → Act → World → Prop}
def SoftOp (P : Program) (Q : Exit → Act → World → Prop) (ops : Array Oper) (a : Act) (w : World) (G : Nat → World → Value → Prop) (i : Nat) (o : Oper) : Prop :=
  ∀ (A : Act) (vs : Nat → Value) (w' : World), (∀ t, slotIx ops.toList 0 t = none → A.eval (.tmp t) = a.eval (.tmp t)) → (∀ t j, t < a.tmps.size → slotIx ops.toList 0 t = some j → A.eval (.tmp t) = vs j) →
    Below w.heap.size w w' → (∀ e ∈ o.after, Region.binds .any e = true → G e.on w' (vs e.on)) →
    o.wp P A w' (fun a2 w2 => ∃ v, a2 = A.put o.dst v ∧ G i w2 v ∧ Below w'.heap.size w' w2) Q
def unlisted (n : Nat) (listed : Array Bool) : List Nat := (List.range n).filter fun i => !listed.getD i true
theorem unlisted_set {n : Nat} {listed : Array Bool} {i : Nat} (hn : listed.size = n) (hi : i < n) (hl : listed.getD i true = false) : (unlisted n (listed.setIfInBounds i true)).length < (unlisted n listed).length := by
  have key : ∀ (l : List Nat), l.Nodup → i ∈ l → (l.filter fun j => !(listed.setIfInBounds i true).getD j true).length < (l.filter fun j => !listed.getD j true).length ∨ False := by
    intro l
    induction l with
    | nil => intro _ h; cases h
    | cons x r ih =>
      intro hnd hm
      rw [List.nodup_cons] at hnd
      have same : ∀ j, j ≠ i → (listed.setIfInBounds i true).getD j true = listed.getD j true := by
        intro j hj
        simp only [Array.getD_eq_getD_getElem?, Array.getElem?_setIfInBounds_ne hj.symm]
      have here : (listed.setIfInBounds i true).getD i true = true := by
        simp only [Array.getD_eq_getD_getElem?, Array.getElem?_setIfInBounds_self_of_lt (by omega : i < listed.size)]; rfl
      by_cases hx : x = i
      · subst hx
        left
        rw [List.filter_cons_of_neg (by simp [here]), List.filter_cons_of_pos (by simp [hl])]
        have e : r.filter (fun j => !(listed.setIfInBounds x true).getD j true) = r.filter (fun j => !listed.getD j true) :=
          List.filter_congr (fun j hj => by rw [same j (fun e => hnd.1 (e ▸ hj))])
        rw [e]; simp
      · left
        have hm' : i ∈ r := by rcases List.mem_cons.1 hm with h | h; · exact absurd h.symm hx
                               · exact h
        have := (ih hnd.2 hm').resolve_right id
        by_cases hb : listed.getD x true = true
        · rw [List.filter_cons_of_neg (by simp [same x hx, hb]), List.filter_cons_of_neg (by simp [hb])]; exact this
        · have hb' : listed.getD x true = false := by simpa using hb
          rw [List.filter_cons_of_pos (by simp [same x hx, hb']), List.filter_cons_of_pos (by simp [hb'])]
          simp only [List.length_cons]; omega
  exact (key (List.range n) List.nodup_range (List.mem_range.2 hi)).resolve_right id
end
def StableG (G : World → Value → Prop) : Prop := ∀ w v w', G w v → Below w.heap.size w w' → G w' v
abbrev SG := { G : World → Value → Prop // StableG G }
def sgEq (u : Value) : SG := ⟨fun _ v => v = u, fun _ _ _ h _ => h⟩
def sgAny : SG := ⟨fun _ _ => True, fun _ _ _ h _ => h⟩
section
variable {P : Program} {T E S : TypeId} {o : Oper} {a : Act} {K : Act → World → Prop} {Q : Exit → Act → World → Prop} {w : World}
theorem wp_run {v : Value} (hrun : (execOp a.eval o).run P w = .ok (.value v) w) (h : K (a.put o.dst v) w) : o.wp P a w K Q := by
  unfold Oper.wp
  rw [hrun]
  exact h
theorem wp_callFn {f : FuncId} {xs : Array Operand} {ts : Array TypeId} {args : Array Value} (ho : o.op = .call { callee := .value (.func f), args := xs, argTypes := ts }) (eg : ∀ args w, (callFunc f args).run P w = .ok (.enter f args) w)
    (hargs : xs.map a.eval = args) (hc : Calls P f args w (fun e w' => ∃ v, e = .returned v ∧ K (a.put o.dst v) w')) : o.wp P a w K Q := by
  have hrun : (execOp a.eval o).run P w = .ok (.enter f args) w := by
    subst hargs
    simp [execOp, ho, resolve, BigFrame.eval_func, invoke, Deferred.ofValue, eg]
  unfold Oper.wp
  rw [hrun, Oper.upon_enter]
  refine hc.mono (fun e w' h => ?_)
  obtain ⟨v, rfl, hk⟩ := h
  exact hk
theorem run_append_zero (hP : ByP P T E S) (w : World) {base B : Nat} (ty : TypeId) {g : Addr} {x : Value} {xs : List UInt8} (hown : Own E base w (.slice (some g) 0 0) []) (hx : Rd B w x xs)
    (hbase : base ≤ w.heap.size) (hlen : xs.length ≤ 1073741824) :
    ∃ v' w', (Builtin.append_ #[T, T] ty #[.slice (some g) 0 0, x]).run P w = .ok v' w' ∧ Own E base w' v' xs ∧ Below w.heap.size w w' := by
  obtain ⟨i, hi, hz, hsz, hby⟩ := hP.info
  rcases hx with ⟨ax, cx, rfl, _, rfl⟩ | ⟨b, off, cap, rfl, _, _, _, hc⟩
  · have hsrc : Src P i.size T (.slice ax 0 cx) 0 [] w := by
      cases ax with
      | none => exact Src.ofNil w hP.hT cx
      | some p => exact Src.ofSlice w hP.hT p 0 cx [] (by simp) (fun j u h => by simp at h) (fun u h => by cases h)
    exact ⟨_, w, run_append_nothing w T T ty E i hP.hT hi (some g) 0 0 (Nat.le_refl _) _ hsrc, hown, Below.refl _ _⟩
  · have hsrc : Src P i.size T (.slice (some ⟨b, off, none⟩) xs.length cap) xs.length (bv xs) w :=
      Src.ofSlice w hP.hT _ _ _ _ (by rw [bv_length, hsz, Nat.mul_one]) (fun j u hj => by simpa [Addr.add_lit] using hc j u hj) bv_one
    by_cases h0 : xs = []
    · subst h0
      exact ⟨_, w, run_append_nothing w T T ty E i hP.hT hi (some g) 0 0 (Nat.le_refl _) _ hsrc, hown, Below.refl _ _⟩
    · have hpos : 0 < xs.length := List.length_pos_iff.2 h0
      have hr := run_append_grow_src (P := P) w T T ty E i (.int .u8 0) hP.hT hi hz (some g) 0 0 [] (run_firstCells_some w.drew i.size 0 g 0 0 [] (by simp) (fun j u h => by simp at h)) _ _ _ hsrc (by omega) (by omega)
        (by rw [hby]; exact growslice_fits (by omega) (by omega))
      refine ⟨_, _, hr, ⟨xs.length, by rw [bv_length, Nat.mul_one], .inr ⟨w.heap.size, grownCap w (0 + xs.length) 0 E, _, by rw [Nat.zero_add], hbase, heap_alloc_new w.drew _, ?_, grownCap_le_maxLen w _ _ _ (by unfold maxLen; omega), ?_, ?_⟩⟩, ?_⟩
      · have := grownCap_ge w (0 + xs.length) 0 E; omega
      · have := grownCap_ge w (0 + xs.length) 0 E
        rw [Nat.zero_add] at this ⊢
        simp [size_zeroCells, Value.cells, bv_length]; omega
      · simp only [List.nil_append, Array.toList_append, Nat.mul_one]
        rw [List.take_append_of_le_length (by simp [bv_length]), List.take_of_length_le (by simp [bv_length])]
      · exact ((Below.refl _ w).drew).alloc (Nat.le_refl _) _
theorem wp_append_zero (hP : ByP P T E S) {s x : Operand} (ho : o.op = .call { callee := .builtin .append, args := #[s, x], argTypes := #[T, T] })
    {base B : Nat} {g : Addr} {vx : Value} {xs : List UInt8} (hs : a.eval s = .slice (some g) 0 0) (hown : Own E base w (.slice (some g) 0 0) []) (hx : a.eval x = vx) (hr : Rd B w vx xs)
    (hbase : base ≤ w.heap.size)
    (h : ∀ ad k cap w', Own E base w' (.slice ad k cap) xs → Below w.heap.size w w' → K (a.put o.dst (.slice ad k cap)) w') (hlen : xs.length ≤ 1073741824) : o.wp P a w K Q := by
  obtain ⟨v', w', hrun, h2, h3⟩ := run_append_zero hP w o.type hown hr hbase hlen
  obtain ⟨ad, k, cap, rfl⟩ := Own.shape h2
  unfold Oper.wp execOp
  simp only [ho, resolve, invoke, builtin, Sem.run_bind, Sem.run_pure, Result.andThen_ok, List.map_toArray, List.map_cons, List.map_nil, hs, hx, hrun]
  exact h _ _ _ _ h2 h3
end
end Go.Proofs.Ytobelnedhlepaaa
namespace Go.Proofs.Ytobelnedhlepaaa
open Go.RowKit
def Flat {α : Type} (E : Elt α) (S : Nat → Prop) (w : World) : List α → List Value → Prop
  | [], vs => vs = []
  | x :: xs, vs => ∃ us ws, vs = us ++ ws ∧ E.R S w x us ∧ Flat E S w xs ws
section
variable {α : Type} {E : Elt α} {S S' : Nat → Prop} {w w' : World}
theorem Flat.len : ∀ {xs : List α} {vs : List Value}, Flat E S w xs vs → vs.length = xs.length * E.size
  | [], _, h => by cases h; simp
  | x :: xs, _, ⟨us, ws, rfl, h1, h2⟩ => by rw [List.length_append, E.len h1, Flat.len h2, List.length_cons, Nat.add_mul]; omega
theorem Flat.append : ∀ {xs ys : List α} {vs us : List Value}, Flat E S w xs vs → Flat E S w ys us → Flat E S w (xs ++ ys) (vs ++ us)
  | [], _, _, _, h, k => by cases h; exact k
  | x :: xs, _, _, _, ⟨us, ws, rfl, h1, h2⟩, k => ⟨us, _, by rw [List.append_assoc], h1, Flat.append h2 k⟩
theorem Flat.keep : ∀ {xs : List α} {vs : List Value}, Flat E S w xs vs → (∀ k, S k → w'.heap[k]? = w.heap[k]?) → Flat E S w' xs vs
  | [], _, h, _ => h
  | _ :: _, _, ⟨us, ws, e, h1, h2⟩, hk => ⟨us, ws, e, E.keep h1 hk, Flat.keep h2 hk⟩
theorem Flat.weak : ∀ {xs : List α} {vs : List Value}, Flat E S w xs vs → (∀ k, S k → S' k) → Flat E S' w xs vs
  | [], _, h, _ => h
  | _ :: _, _, ⟨us, ws, e, h1, h2⟩, hk => ⟨us, ws, e, E.weak h1 hk, Flat.weak h2 hk⟩
theorem Flat.one : ∀ {xs : List α} {vs : List Value}, Flat E S w xs vs → ∀ u ∈ vs, u.oneCell' = true
  | [], _, h => by cases h; simp
  | _ :: _, _, ⟨us, ws, e, h1, h2⟩ => by
    subst e
    intro u hu
    rcases List.mem_append.1 hu with hu | hu
    · exact E.one h1 u hu
    · exact Flat.one h2 u hu
theorem Flat.at : ∀ {xs : List α} {vs : List Value} (_ : Flat E S w xs vs) (r : Nat) (hr : r < xs.length), ∃ us, E.R S w xs[r] us ∧ ∀ j u, us[j]? = some u → vs[r * E.size + j]? = some u
  | [], _, _, _, hr => absurd hr (Nat.not_lt_zero _)
  | x :: xs, _, ⟨us, ws, rfl, h1, h2⟩, 0, _ => ⟨us, h1, fun j u hj => by
      rw [Nat.zero_mul, Nat.zero_add, List.getElem?_append_left (List.getElem?_eq_some_iff.1 hj).1]; exact hj⟩
  | x :: xs, _, ⟨us, ws, rfl, h1, h2⟩, r + 1, hr => by
    obtain ⟨us', h3, h4⟩ := Flat.at h2 r (by simpa using hr)
    refine ⟨us', by simpa using h3, fun j u hj => ?_⟩
    have hl := E.len h1
    rw [show (r + 1) * E.size + j = us.length + (r * E.size + j) by rw [hl, Nat.add_mul]; omega, List.getElem?_append_right (Nat.le_add_right _ _), Nat.add_sub_cancel_left]
    exact h4 j u hj
theorem Flat.single {x : α} {us : List Value} (h : E.R S w x us) : Flat E S w [x] us := ⟨us, [], by simp, h, rfl⟩
theorem flat_of {b off : Nat} : ∀ (xs : List α) (k : Nat), (∀ r (h : r < xs.length), ∃ vs, E.R S w xs[r] vs ∧ ∀ j u, vs[j]? = some u → w.cell? ⟨b, off + (k + r) * E.size + j, none⟩ = some u) →
    ∃ vs, Flat E S w xs vs ∧ ∀ j u, vs[j]? = some u → w.cell? ⟨b, off + k * E.size + j, none⟩ = some u
  | [], k, _ => ⟨[], rfl, fun j u h => by simp at h⟩
  | x :: xs, k, h => by
    obtain ⟨us, h1, h2⟩ := h 0 (by simp)
    obtain ⟨ws, h3, h4⟩ := flat_of xs (k + 1) (fun r hr => by
      obtain ⟨vs, h5, h6⟩ := h (r + 1) (by simpa using hr)
      exact ⟨vs, by simpa using h5, fun j u hj => by rw [show k + 1 + r = k + (r + 1) by omega]; exact h6 j u hj⟩)
    refine ⟨us ++ ws, ⟨us, ws, rfl, by simpa using h1, h3⟩, fun j u hj => ?_⟩
    have hl := E.len h1
    rcases Nat.lt_or_ge j us.length with hlt | hge
    · rw [List.getElem?_append_left hlt] at hj
      exact h2 j u hj
    · rw [List.getElem?_append_right hge] at hj
      have := h4 _ u hj
      rw [show off + (k + 1) * E.size + (j - us.length) = off + k * E.size + j by rw [Nat.add_mul]; omega] at this
      exact this
theorem RdL.flat {b off n c : Nat} {xs : List α} (h : RdL E S w (.slice (some ⟨b, off, none⟩) n c) xs) : ∃ vs, Flat E S w xs vs ∧ ∀ j u, vs[j]? = some u → w.cell? ⟨b, off + j, none⟩ = some u := by
  obtain ⟨a, cap, h1, h2, h3, h4⟩ := h
  cases h1
  rcases h4 with rfl | ⟨b', off', e, hb, hq⟩
  · exact ⟨[], rfl, fun j u h => by simp at h⟩
  · cases e
    obtain ⟨vs, h5, h6⟩ := flat_of (b := b) (off := off) xs 0 (fun r hr => by
      obtain ⟨vs, h5, h6⟩ := hq r hr
      exact ⟨vs, h5, fun j u hj => by rw [Nat.zero_add]; exact h6 j u hj⟩)
    exact ⟨vs, h5, fun j u hj => by have := h6 j u hj; rwa [Nat.zero_mul, Nat.add_zero] at this⟩
end
def OwnL {α : Type} (E : Elt α) (T : TypeId) (base lo : Nat) (w : World) (v : Value) (xs : List α) : Prop :=
  ∃ vs, w.ownsRow base T E.size v xs.length vs ∧ Flat E (fun k => lo ≤ k ∧ k < w.heap.size ∧ some k ≠ v.ownBlock) w xs vs
section
variable {α : Type} {E : Elt α} {T : TypeId} {base lo : Nat} {w w' : World} {v : Value} {xs : List α}
theorem OwnL.nil (E : Elt α) (T : TypeId) (base lo : Nat) (w : World) : OwnL E T base lo w (.slice none 0 0) [] := ⟨[], World.ownsRow_nil _ _ _ _, rfl⟩
theorem OwnL.shape (h : OwnL E T base lo w v xs) : ∃ a cap, v = .slice a xs.length cap := by
  obtain ⟨vs, h, _⟩ := h
  rcases h.2 with ⟨rfl, h0⟩ | ⟨g, cap, cur, rfl, _⟩
  · rw [h0]; exact ⟨none, 0, rfl⟩
  · exact ⟨_, _, rfl⟩
theorem OwnL.len {a : Option Addr} {k c : Nat} (h : OwnL E T base lo w (.slice a k c) xs) : k = xs.length := by
  obtain ⟨_, _, e⟩ := h.shape
  cases e; rfl
theorem OwnL.block_lt (h : OwnL E T base lo w v xs) : ∀ k, v.ownBlock = some k → base ≤ k ∧ k < w.heap.size := by
  obtain ⟨vs, h1, _⟩ := h
  exact fun k hk => h1.lt k hk
theorem OwnL.to {base' lo' : Nat} (h : OwnL E T base lo w v xs) (hb : base' ≤ base) (hl : lo' ≤ lo) : OwnL E T base' lo' w v xs := by
  obtain ⟨vs, h1, h2⟩ := h
  exact ⟨vs, ⟨h1.1, h1.2.imp id fun ⟨g, cap, cur, a, b, c⟩ => ⟨g, cap, cur, a, Nat.le_trans hb b, c⟩⟩, h2.weak fun k hk => ⟨Nat.le_trans hl hk.1, hk.2⟩⟩
theorem OwnL.kept (h : OwnL E T base lo w v xs) (hs : w.heap.size ≤ w'.heap.size) (hk : ∀ k, lo ≤ k ∨ base ≤ k → k < w.heap.size → w'.heap[k]? = w.heap[k]?) : OwnL E T base lo w' v xs := by
  obtain ⟨vs, h1, h2⟩ := h
  refine ⟨vs, ⟨h1.1, ?_⟩, (h2.keep fun k hk' => hk k (.inl hk'.1) hk'.2.1).weak fun k hk => ⟨hk.1, Nat.lt_of_lt_of_le hk.2.1 hs, hk.2.2⟩⟩
  rcases h1.2 with h | ⟨g, cap, cur, hv, hb, hg, r⟩
  · exact .inl h
  · exact .inr ⟨g, cap, cur, hv, hb, (hk g (.inr hb) (Array.getElem?_eq_some_iff.1 hg).1).trans hg, r⟩
theorem OwnL.below (h : OwnL E T base lo w v xs) (hb : Below w.heap.size w w') : OwnL E T base lo w' v xs := h.kept hb.size fun k _ hk => hb.block k hk
theorem OwnL.other (h : OwnL E T base lo w v xs) {g : Nat} (hg : w.grownBy w' (some g)) (h1 : g < lo) (h2 : g < base) : OwnL E T base lo w' v xs :=
  h.kept hg.size fun k hk hl => hg.block k hl (fun e => by injection e with e; omega)
theorem OwnL.rdL (h : OwnL E T base lo w v xs) : RdL E (fun k => (lo ≤ k ∨ base ≤ k) ∧ k < w.heap.size) w v xs := by
  obtain ⟨vs, h1, h2⟩ := h
  have hx := h1
  rcases h1.2 with ⟨rfl, h0⟩ | ⟨g, cap, cur, rfl, hb, hg, hn, hc, hcs, ht⟩
  · obtain rfl : xs = [] := List.eq_nil_of_length_eq_zero h0
    exact RdL.nil _ _ _
  · refine ⟨_, cap, rfl, hn, hc, .inr ⟨g, 0, rfl, ⟨.inr hb, (Array.getElem?_eq_some_iff.1 hg).1⟩, fun r hr => ?_⟩⟩
    obtain ⟨us, h3, h4⟩ := h2.at r hr
    refine ⟨us, E.weak h3 fun k hk => ⟨.inl hk.1, hk.2.1⟩, fun j u hj => ?_⟩
    have := hx.cells (g := g) rfl _ u (h4 j u hj)
    simpa [Addr.add_lit] using this
theorem OwnL.rdS {S : Nat → Prop} (h : OwnL E T base lo w v xs) (hs : ∀ k, lo ≤ k ∨ base ≤ k → k < w.heap.size → S k) : RdL E S w v xs := h.rdL.weak fun k hk => hs k hk.1 hk.2
end
structure LoP (P : Program) (T Te : TypeId) (n : Nat) : Prop extends LsP P T Te n where
  hz : ∃ z by', (P.info? Te).map (fun i => (i.zero, i.bytes)) = some (some z, by') ∧ z.cells.size = n ∧ by' ≤ 4096
section
variable {α : Type} {E : Elt α} {P : Program} {T Te : TypeId} {ops : Array Oper} {rest : List Oper} {o : Oper} {a : Act} {Q : Exit → Act → World → Prop} {w : World} {K : Act → World → Prop}
theorem LoP.all {n : Nat} (h : LoP P T Te n) : ∃ i z, P.info? Te = some i ∧ i.zero = some z ∧ i.size = n ∧ i.bytes ≤ 4096 ∧ z.cells.size = n := by
  obtain ⟨i, hi, hs⟩ := h.info
  obtain ⟨z, by', h1, h2, h3⟩ := h.hz
  simp only [hi, Option.map_some, Option.some.injEq, Prod.mk.injEq] at h1
  exact ⟨i, z, hi, h1.1, hs, by omega, h2⟩
theorem run_append_L (hP : LoP P T Te E.size) (w : World) {base lo : Nat} (ty : TypeId) {v : Value} {xs ys : List α} {ns : List Value} (hown : OwnL E Te base lo w v xs) {p : Addr} {c : Nat} {S : Nat → Prop}
    (hcells : ∀ j u, ns[j]? = some u → w.cell? (p.add j) = some u) (hn : Flat E S w ys ns) (hS : ∀ k, S k → lo ≤ k ∧ k < w.heap.size ∧ some k ≠ v.ownBlock) (hbase : base ≤ w.heap.size) (hlen : xs.length + ys.length ≤ 1073741824) :
    ∃ v' w', (Builtin.append_ #[T, T] ty #[v, .slice (some p) ys.length c]).run P w = .ok v' w' ∧ OwnL E Te base lo w' v' (xs ++ ys) ∧ w.grownBy w' v.ownBlock ∧ (v'.ownBlock = v.ownBlock ∨ v'.ownBlock = some w.heap.size) := by
  obtain ⟨i, z, hi, hz, hsz, hby, hzs⟩ := hP.all
  obtain ⟨us, h1, h2⟩ := hown
  obtain ⟨v', w', hr, ho, hg, _, hb⟩ := run_append_own_at (P := P) (w := w) base T ty Te i z E.size i.bytes hP.hT hi hz hsz rfl hzs E.pos v xs.length us h1 p ys.length c ns hn.len hcells hn.one (by unfold maxLen; omega)
    (by have := Nat.mul_le_mul hlen hby; omega) hbase
  refine ⟨v', w', hr, ⟨us ++ ns, by rw [List.length_append]; exact ho, ?_⟩, hg, hb⟩
  have hne : ∀ k, k < w.heap.size → some k ≠ v.ownBlock → some k ≠ v'.ownBlock := fun k h3 h4 => by
    rcases hb with e | e
    · rw [e]; exact h4
    · rw [e]; intro e2; injection e2 with e2; omega
  have hk : ∀ k, lo ≤ k ∧ k < w.heap.size ∧ some k ≠ v.ownBlock → lo ≤ k ∧ k < w'.heap.size ∧ some k ≠ v'.ownBlock := fun k hk => ⟨hk.1, Nat.lt_of_lt_of_le hk.2.1 hg.size, hne k hk.2.1 hk.2.2⟩
  have hsame : ∀ k, lo ≤ k ∧ k < w.heap.size ∧ some k ≠ v.ownBlock → w'.heap[k]? = w.heap[k]? := fun k hk => hg.block k hk.2.1 hk.2.2
  exact ((h2.keep hsame).weak hk).append (((hn.weak hS).keep hsame).weak hk)
theorem fold_set : ∀ (vs : List Value) (k : Nat) (cells : Array Value), k + vs.length ≤ cells.size → (vs.zipIdx k).foldl (fun cs (p : Value × Nat) => cs.setIfInBounds p.2 p.1) cells = (cells.toList.take k ++ vs ++ cells.toList.drop (k + vs.length)).toArray := by
  intro vs
  induction vs with
  | nil => intro k cells _; simp
  | cons v vs ih =>
    intro k cells hk
    simp only [List.length_cons] at hk
    have hlt : k < cells.toList.length := by simp; omega
    simp only [List.zipIdx_cons, List.foldl_cons]
    rw [ih (k + 1) _ (by simp; omega)]
    congr 1
    have e1 : (cells.toList.set k v).take (k + 1) = cells.toList.take k ++ [v] := by
      rw [List.take_succ_eq_append_getElem (by simpa using hlt), List.take_set_of_le (Nat.le_refl _)]
      simp
    have e2 : (cells.toList.set k v).drop (k + 1 + vs.length) = cells.toList.drop (k + (vs.length + 1)) := by
      rw [List.drop_set_of_lt (by omega)]
      congr 1; omega
    simp only [Array.toList_setIfInBounds, List.length_cons, e1, e2]
    simp
theorem run_buildOne {n : Nat} (hP : LoP P T Te n) (w : World) {v : Value} {us : List Value} (hv : v.cells = us.toArray) (hl : us.length = n) (h0 : 0 < n) (hn : n ≤ 4096) :
    (Instr.buildSlice T 1 #[(0, v)]).run P w = .ok (.slice (some ⟨w.heap.size, 0, none⟩) 1 1) (w.alloc (.cells us.toArray Te)) := by
  obtain ⟨i, z, hi, hz, hsz, hby, hzs⟩ := hP.all
  have hf : ∀ cells : Array Value, cells.size = n → Instr.fill (fun i => some (i * n, n)) cells [(0, v)] = some us.toArray := by
    intro cells hc
    have h := fold_set us 0 cells (by omega)
    rw [show 0 + us.length = cells.toList.length by simp [hl, hc], List.drop_length] at h
    simp only [List.take_zero, List.nil_append, List.append_nil] at h
    simp [Instr.fill, hv, hl]
    exact ⟨by omega, by simpa using h⟩
  have hsz2 : ((Array.range (1 * n)).map (fun x => (z.cells)[x % (z.cells).size]!)).size = n := by simp
  have := hf _ hsz2
  simp [Instr.buildSlice, run_underlying hP.hT, sizeOf, typeInfo, zeroValue, hi, hz, hsz, newRow] at this ⊢
  rw [if_neg (by omega), if_neg (by omega), this]
  simp
theorem wp_buildOne {n : Nat} (hP : LoP P T Te n) {y : Operand} {v : Value} {us : List Value} (ho : o.op = .buildSlice T 1 #[(0, y)]) (hy : a.eval y = v) (hv : v.cells = us.toArray) (hl : us.length = n) (h0 : 0 < n) (hn : n ≤ 4096)
    (h : K (a.put o.dst (.slice (some ⟨w.heap.size, 0, none⟩) 1 1)) (w.alloc (.cells us.toArray Te))) : o.wp P a w K Q := by
  have hrun := run_buildOne hP w hv hl h0 hn
  unfold Oper.wp execOp
  simp only [ho, hy, Sem.run_bind, Sem.run_pure, Result.andThen_ok, List.map_toArray, List.map_cons, List.map_nil, hrun]
  exact h
theorem wp_appendL (hP : LoP P T Te E.size) {s x : Operand} (ho : o.op = .call { callee := .builtin .append, args := #[s, x], argTypes := #[T, T] })
    {base lo : Nat} {vs : Value} {xs ys : List α} {ns : List Value} {p : Addr} {c : Nat} {S : Nat → Prop} (hs : a.eval s = vs) (hown : OwnL E Te base lo w vs xs) (hx : a.eval x = .slice (some p) ys.length c)
    (hcells : ∀ j u, ns[j]? = some u → w.cell? (p.add j) = some u) (hn : Flat E S w ys ns) (hS : ∀ k, S k → lo ≤ k ∧ k < w.heap.size ∧ some k ≠ vs.ownBlock) (hbase : base ≤ w.heap.size)
    (h : ∀ ad k cap w', OwnL E Te base lo w' (.slice ad k cap) (xs ++ ys) → w.grownBy w' vs.ownBlock → (Value.ownBlock (.slice ad k cap) = vs.ownBlock ∨ Value.ownBlock (.slice ad k cap) = some w.heap.size) → K (a.put o.dst (.slice ad k cap)) w') (hlen : xs.length + ys.length ≤ 1073741824) : o.wp P a w K Q := by
  obtain ⟨v', w', hrun, h2, h3, h4⟩ := run_append_L hP w o.type hown hcells hn hS hbase hlen (c := c)
  obtain ⟨ad, cap, rfl⟩ := h2.shape
  unfold Oper.wp execOp
  simp only [ho, resolve, invoke, builtin, Sem.run_bind, Sem.run_pure, Result.andThen_ok, List.map_toArray, List.map_cons, List.map_nil, hs, hx, hrun]
  exact h _ _ _ _ h2 h3 h4
theorem wpList_appendL (hP : LoP P T Te E.size) {s x : Operand} (ho : o.op = .call { callee := .builtin .append, args := #[s, x], argTypes := #[T, T] }) (hgd : Region.wanted o (yielded ops a.tmps) = true)
    {base lo : Nat} {vs : Value} {xs ys : List α} {ns : List Value} {p : Addr} {c : Nat} {S : Nat → Prop} (hs : a.eval s = vs) (hown : OwnL E Te base lo w vs xs) (hx : a.eval x = .slice (some p) ys.length c)
    (hcells : ∀ j u, ns[j]? = some u → w.cell? (p.add j) = some u) (hn : Flat E S w ys ns) (hS : ∀ k, S k → lo ≤ k ∧ k < w.heap.size ∧ some k ≠ vs.ownBlock) (hbase : base ≤ w.heap.size)
    (h : ∀ ad k cap w', OwnL E Te base lo w' (.slice ad k cap) (xs ++ ys) → w.grownBy w' vs.ownBlock → (Value.ownBlock (.slice ad k cap) = vs.ownBlock ∨ Value.ownBlock (.slice ad k cap) = some w.heap.size) → wpList P ops Q rest (a.put o.dst (.slice ad k cap)) w') (hlen : xs.length + ys.length ≤ 1073741824) : wpList P ops Q (o :: rest) a w :=
  BigFrame.wpList_want hgd fun _ hK => wp_appendL hP ho hs hown hx hcells hn hS hbase (fun ad k cap w' h1 h2 h3 => hK _ _ (h ad k cap w' h1 h2 h3)) hlen
theorem run_append_zeroL (hP : LoP P T Te E.size) (w : World) {base lo : Nat} (ty : TypeId) {g : Addr} {ax : Option Addr} {cx nx : Nat} {ys : List α} {S : Nat → Prop} (hown : OwnL E Te base lo w (.slice (some g) 0 0) []) (hx : RdL E S w (.slice ax nx cx) ys)
    (hS : ∀ k, S k → lo ≤ k ∧ k < w.heap.size) (hbase : base ≤ w.heap.size) (hlen : ys.length ≤ 1073741824) :
    ∃ v' w', (Builtin.append_ #[T, T] ty #[.slice (some g) 0 0, .slice ax nx cx]).run P w = .ok v' w' ∧ OwnL E Te base lo w' v' ys ∧ Below w.heap.size w w' := by
  obtain ⟨i, z, hi, hz, hsz, hby, hzs⟩ := hP.all
  obtain ⟨rfl, _, _⟩ := hx.len
  by_cases h0 : ys = []
  · subst h0
    have hsrc : Src P i.size T (.slice ax 0 cx) 0 [] w := by
      cases ax with
      | none => exact Src.ofNil w hP.hT cx
      | some p => exact Src.ofSlice w hP.hT p 0 cx [] (by simp) (fun j u h => by simp at h) (fun u h => by cases h)
    exact ⟨_, w, run_append_nothing w T T ty Te i hP.hT hi (some g) 0 0 (Nat.le_refl _) _ hsrc, hown, Below.refl _ _⟩
  · have hpos : 0 < ys.length := List.length_pos_iff.2 h0
    obtain ⟨b, off, _, rfl, _⟩ := hx.at 0 hpos
    obtain ⟨ns, hn, hc⟩ := hx.flat
    have hnl := hn.len
    have hsrc : Src P i.size T (.slice (some ⟨b, off, none⟩) ys.length cx) ys.length ns w :=
      Src.ofSlice w hP.hT _ _ _ _ (by rw [hnl, hsz]) (fun j u hj => by rw [Addr.add_lit]; exact hc j u hj) hn.one
    have hbytes : (ys.length) * i.bytes ≤ 1073741824 * 4096 := Nat.mul_le_mul hlen hby
    have hr := run_append_grow_src (P := P) w T T ty Te i z hP.hT hi hz (some g) 0 0 [] (run_firstCells_some w.drew i.size 0 g 0 0 [] (by simp) (fun j u h => by simp at h)) _ _ _ hsrc (by omega) (by omega)
      (growslice_fits (by simp only [Nat.zero_add]; omega) (by simp only [Nat.zero_add]; omega))
    have hb : Below w.heap.size w (w.drew.alloc (.cells (([] ++ ns : List Value).toArray ++ Builtin.zeroCells z.cells (grownCap w (0 + ys.length) 0 Te - (0 + ys.length))) Te)) := ((Below.refl _ w).drew).alloc (Nat.le_refl _) _
    have hge := grownCap_ge w (0 + ys.length) 0 Te
    refine ⟨_, _, hr, ⟨ns, ⟨by rw [hnl], .inr ⟨w.heap.size, grownCap w (0 + ys.length) 0 Te, _, by rw [Nat.zero_add], hbase, heap_alloc_new w.drew _, by omega, grownCap_le_maxLen w _ _ _ (by unfold maxLen; omega), ?_, ?_⟩⟩, ?_⟩, hb⟩
    · rw [Nat.zero_add] at hge ⊢
      simp [size_zeroCells, hnl, hzs]
      rw [← Nat.add_mul]
      congr 1
      omega
    · simp only [List.nil_append, Array.toList_append]
      rw [← hnl]
      simp
    · refine ((hn.weak (S' := fun k => lo ≤ k ∧ k < w.heap.size) hS).keep (w' := _) (fun k hk => hb.block k hk.2)).weak fun k hk => ⟨hk.1, Nat.lt_of_lt_of_le hk.2 hb.size, ?_⟩
      intro e
      have h5 := hk.2
      simp only [Value.ownBlock] at e
      injection e with e
      omega
theorem wp_append_zeroL (hP : LoP P T Te E.size) {s x : Operand} (ho : o.op = .call { callee := .builtin .append, args := #[s, x], argTypes := #[T, T] })
    {base lo : Nat} {g : Addr} {ax : Option Addr} {cx nx : Nat} {ys : List α} {S : Nat → Prop} (hs : a.eval s = .slice (some g) 0 0) (hown : OwnL E Te base lo w (.slice (some g) 0 0) []) (hx : a.eval x = .slice ax nx cx) (hr : RdL E S w (.slice ax nx cx) ys)
    (hS : ∀ k, S k → lo ≤ k ∧ k < w.heap.size) (hbase : base ≤ w.heap.size)
    (h : ∀ ad k cap w', OwnL E Te base lo w' (.slice ad k cap) ys → Below w.heap.size w w' → K (a.put o.dst (.slice ad k cap)) w') (hlen : ys.length ≤ 1073741824) : o.wp P a w K Q := by
  obtain ⟨v', w', hrun, h2, h3⟩ := run_append_zeroL hP w o.type hown hr hS hbase hlen
  obtain ⟨ad, cap, rfl⟩ := h2.shape
  unfold Oper.wp execOp
  simp only [ho, resolve, invoke, builtin, Sem.run_bind, Sem.run_pure, Result.andThen_ok, List.map_toArray, List.map_cons, List.map_nil, hs, hx, hrun]
  exact h _ _ _ _ h2 h3
end
end Go.Proofs.Ytobelnedhlepaaa
namespace Go.Proofs.Ytobelnedhlepaaa
open Go.RowKit
section
variable {P : Program} {T E S : TypeId} {o : Oper} {a : Act} {K : Act → World → Prop} {Q : Exit → Act → World → Prop} {w : World}
theorem wp_ld_int {t : TypeId} {x : Operand} {p : Addr} {v : Value} {k : IntKind} (ho : o.op = .load t x) (hx : a.eval x = .pointer (some p)) (hu : P.underlying t = some (.int k)) (hc : w.cell? p = some v) (h : K (a.put o.dst v) w) : o.wp P a w K Q := by
  refine wp_run ?_ h
  simp only [execOp, ho, hx]
  simp [isAgg, run_underlying hu, hc, go_sem]
theorem wp_ld_slice {t e : TypeId} {x : Operand} {p : Addr} {v : Value} (ho : o.op = .load t x) (hx : a.eval x = .pointer (some p)) (hu : P.underlying t = some (.slice e)) (hc : w.cell? p = some v) (h : K (a.put o.dst v) w) : o.wp P a w K Q := by
  refine wp_run ?_ h
  simp only [execOp, ho, hx]
  simp [isAgg, run_underlying hu, hc, go_sem]
theorem wp_ex {x : Operand} {i : Nat} {vs : Array Value} {v : Value} (ho : o.op = .extract x i) (hx : a.eval x = .tuple vs) (hv : vs[i]? = some v) (h : K (a.put o.dst v) w) : o.wp P a w K Q := by
  refine wp_run (v := v) ?_ h
  simp only [execOp, ho, hx]
  simp [Instr.extract, hv]
theorem wp_lssI {t t2 : TypeId} {x y : Operand} {k : IntKind} {m n : Int} (ho : o.op = .binOp .lss t x y t2) (hx : a.eval x = .int k m) (hy : a.eval y = .int k n) (h : K (a.put o.dst (.bool (decide (m < n)))) w) : o.wp P a w K Q := by
  refine wp_run (v := .bool (decide (m < n))) ?_ h
  simp only [execOp, ho, hx, hy]
  simp [binOp, Op.intCmp, go_sem]
end
end Go.Proofs.Ytobelnedhlepaaa
namespace Go.Proofs.Ytobelnedhlepaaa
open Go.RowKit
def stB (P : Program) (t : TypeId) (n : Nat) : Bool := match P.underlying t with
  | some (.struct fs) => fs.size == n && ((List.range n).all fun i => match fs[i]? with
    | some f => f.offset == i && (P.info? f.type).map (·.size) == some 1
    | none => false) && ((P.info? t).map (·.size) == some n) && (match (P.info? t).bind (·.zero) with
    | some (.agg zs) => zs.size == n
    | _ => false)
  | _ => false
structure StP (P : Program) (t : TypeId) (n : Nat) : Prop where
  hu : ∃ fs : Array Field, P.underlying t = some (.struct fs) ∧ fs.size = n ∧ ∀ i, i < n → ∃ f, fs[i]? = some f ∧ f.offset = i ∧ (P.info? f.type).map (·.size) = some 1
  hs : (P.info? t).map (·.size) = some n
  hz : ∃ zs, (P.info? t).bind (·.zero) = some (.agg zs) ∧ zs.size = n
theorem StP.of {P : Program} {t : TypeId} {n : Nat} (h : stB P t n = true) : StP P t n := by
  unfold stB at h
  split at h
  · rename_i fs hu
    simp only [Bool.and_eq_true, beq_iff_eq, List.all_eq_true, List.mem_range] at h
    obtain ⟨⟨⟨h1, h2⟩, h3⟩, h4⟩ := h
    refine ⟨⟨fs, hu, h1, fun i hi => ?_⟩, h3, ?_⟩
    · have := h2 i hi
      split at this
      · rename_i f hf
        simp only [Bool.and_eq_true, beq_iff_eq] at this
        exact ⟨f, hf, this.1, this.2⟩
      · cases this
    · split at h4
      · rename_i zs hz
        exact ⟨zs, hz, by simpa using h4⟩
      · cases h4
  · cases h
theorem run_sizeOf' {P : Program} {ty : TypeId} {n : Nat} (h : (P.info? ty).map (·.size) = some n) (w : World) : (sizeOf ty).run P w = .ok n w := by
  cases hi : P.info? ty with
  | none => simp [hi] at h
  | some i => simp [hi] at h; simp [sizeOf, typeInfo, hi, h]
theorem StP.zero {P : Program} {t : TypeId} {n : Nat} (hP : StP P t n) : ∃ zs : Array Value, zs.size = n ∧ ∀ w, (zeroValue t).run P w = .ok (.agg zs) w := by
  obtain ⟨zs, h, hs⟩ := hP.hz
  cases hi : P.info? t with
  | none => simp [hi] at h
  | some i => simp [hi] at h; exact ⟨zs, hs, fun w => by simp [zeroValue, typeInfo, hi, h]⟩
section
variable {P : Program} {t : TypeId} {n : Nat} {o : Oper} {a : Act} {K : Act → World → Prop} {Q : Exit → Act → World → Prop} {w : World}
theorem wp_run' {v : Value} (hrun : (execOp a.eval o).run P w = .ok (.value v) w) (h : K (a.put o.dst v) w) : o.wp P a w K Q := by
  unfold Oper.wp
  rw [hrun]
  exact h
theorem wp_fieldN (hP : StP P t n) {x : Operand} {b off i : Nat} (ho : o.op = .fieldAddr t x i) (hx : a.eval x = .pointer (some ⟨b, off, none⟩)) (hi : i < n) (h : K (a.put o.dst (.pointer (some ⟨b, off + i, none⟩))) w) : o.wp P a w K Q := by
  obtain ⟨fs, hu, _, hf⟩ := hP.hu
  obtain ⟨f, hf, ho2, hs⟩ := hf i hi
  refine wp_run' ?_ h
  simp only [execOp, ho, hx]
  simp [Instr.fieldAt, run_underlying hu, fieldPlace, hf, ho2, run_sizeOf' hs, go_sem, Addr.add]
theorem wp_ld_bool {x : Operand} {p : Addr} {v : Value} (ho : o.op = .load t x) (hx : a.eval x = .pointer (some p)) (hu : P.underlying t = some .bool) (hc : w.cell? p = some v) (h : K (a.put o.dst v) w) : o.wp P a w K Q := by
  refine wp_run' ?_ h
  simp only [execOp, ho, hx]
  simp [isAgg, run_underlying hu, hc, go_sem]
theorem wp_ixN {e : TypeId} {x i : Operand} {b off m c k : Nat} {kk : IntKind} {j : Int} (ho : o.op = .indexAddr t x i) (hu : P.underlying t = some (.slice e)) (hi : (P.info? e).map (·.size) = some n) (hx : a.eval x = .slice (some ⟨b, off, none⟩) m c) (hy : a.eval i = .int kk j) (hj : j = (k : Int)) (hk : k < m)
    (h : K (a.put o.dst (.pointer (some ⟨b, off + k * n, none⟩))) w) : o.wp P a w K Q := by
  subst hj
  refine wp_run' ?_ h
  obtain ⟨inf, hinf, hsz⟩ : ∃ inf, P.info? e = some inf ∧ inf.size = n := by
    cases h : P.info? e with
    | none => simp [h] at hi
    | some i => simp [h] at hi; exact ⟨i, rfl, hi⟩
  simp only [execOp, ho, hx, hy]
  simp [Instr.indexAt, run_underlying hu, asIntOf, hinf, hsz, sizeOf, typeInfo, go_sem, Addr.add]
  rw [if_pos hk]
  by_cases h0 : k = 0
  · subst h0; simp
  · simp
end
end Go.Proofs.Ytobelnedhlepaaa
namespace Go.Proofs.Ytobelnedhlepaaa
open Go.RowKit
theorem Rd.of_row {w : World} {a : Option Addr} {len cap : Nat} {zs : List Int} (h : (a = none ∧ len = 0 ∧ cap = 0 ∧ zs = []) ∨
    ∃ x, a = some x ∧ len ≤ cap ∧ cap ≤ maxLen ∧ zs.length = cap ∧ (∀ i, i < zs.length → w.cell? (x.add i) = some (.int .u8 (zs.getD i 0))) ∧ ∀ n ∈ zs, (Lit.int .u8 n).wf = true) :
    Rd w.heap.size w (.slice a len cap) ((zs.take len).map fun n => UInt8.ofNat n.toNat) := by
  rcases h with ⟨rfl, rfl, rfl, rfl⟩ | ⟨x, rfl, hl, hm, hz, hc, hw⟩
  · exact Rd.nil _ _
  · by_cases h0 : len = 0
    · subst h0
      exact .inl ⟨_, cap, rfl, hm, by simp⟩
    · have hlen : ((zs.take len).map fun n => UInt8.ofNat n.toNat).length = len := by simp; omega
      obtain ⟨b, off, spot⟩ := x
      have h1 := hc 0 (by omega)
      have hspot : spot = none := by simpa [Addr.add] using World.cell?_spot h1
      subst hspot
      have hb := World.block_lt_of_cell? w _ h1
      refine .inr ⟨b, off, cap, by rw [hlen], by simpa [Addr.add] using hb, by rw [hlen]; exact hl, hm, fun j u hj => ?_⟩
      have hjl : j < len := by
        rcases Nat.lt_or_ge j len with h | h
        · exact h
        · rw [List.getElem?_eq_none (by rw [bv_length, hlen]; exact h)] at hj; cases hj
      have hcj := hc j (by omega)
      rw [Addr.add_lit] at hcj
      rw [hcj]
      have hjz : j < zs.length := by omega
      have hwf := hw zs[j] (List.getElem_mem hjz)
      have hr : 0 ≤ zs[j] ∧ zs[j] ≤ 255 := by
        simp [Lit.wf, IntKind.min, IntKind.max, IntKind.signed, IntKind.bits] at hwf; omega
      simp [bv, hjl, hjz] at hj
      rw [← hj]
      simp [List.getD, hjz]
      omega
theorem wf_u8 {n : Int} (h : (Lit.int .u8 n).wf = true) : 0 ≤ n ∧ n < 256 := by
  simp [Lit.wf, IntKind.min, IntKind.max, IntKind.signed, IntKind.bits] at h; omega
theorem wf_u16 {n : Int} (h : (Lit.int .u16 n).wf = true) : 0 ≤ n ∧ n < 65536 := by
  simp [Lit.wf, IntKind.min, IntKind.max, IntKind.signed, IntKind.bits] at h; omega
theorem wf_u32 {n : Int} (h : (Lit.int .u32 n).wf = true) : 0 ≤ n ∧ n < 4294967296 := by
  simp [Lit.wf, IntKind.min, IntKind.max, IntKind.signed, IntKind.bits] at h; omega
end Go.Proofs.Ytobelnedhlepaaa
namespace Go.Proofs.Ytobelnedhlepaaa
open Go.ChangeShapes Go.WideShapes Go.ChangeAt Go.RowKit Go.Deep
def Opens {α : Type} (P : Program) (t : TypeId) (E : Elt α) : Prop :=
  ∀ {H : Type} {enc : TypeId × Value → H} {w : World} {base : Nat} {held : Bool} {fuel : Nat} {cs : List Value} {x : DataW H × List MemPlace}, DataW.trod enc P w base (fun _ => true) held fuel t cs = some x → ∃ d, E.R (· < w.heap.size) w d cs
theorem choose_list {α : Type} {p : Nat → α → Prop} : ∀ n, (∀ i, i < n → ∃ d, p i d) → ∃ l : List α, l.length = n ∧ ∀ i (h : i < l.length), p i l[i]
  | 0, _ => ⟨[], rfl, fun i h => absurd h (Nat.not_lt_zero _)⟩
  | n + 1, h => by
    obtain ⟨l, hl, hp⟩ := choose_list n (fun i hi => h i (by omega))
    obtain ⟨d, hd⟩ := h n (Nat.lt_succ_self n)
    refine ⟨l ++ [d], by simp [hl], fun i hi => ?_⟩
    rcases Nat.lt_or_ge i l.length with h1 | h1
    · rw [List.getElem_append_left h1]; exact hp i h1
    · rw [List.length_append] at hi
      simp only [List.length_cons, List.length_nil] at hi
      obtain rfl : i = l.length := by omega
      rw [List.getElem_append_right (Nat.le_refl _)]
      simp only [Nat.sub_self, List.getElem_cons_zero]
      rw [hl]; exact hd
section
variable {P : Program} {t e : TypeId}
theorem Opens.bytes (ht : P.underlying t = some (.slice e)) (he : P.underlying e = some (.int .u8)) (hc : P.cellsOf e = 1) : Opens P t Elt.bytes := by
  intro H enc w base held fuel cs x h
  rcases open_ints ht he hc h with ⟨hcs, _⟩ | ⟨x, l, c, zs, hcs, _, hl, hm, hz, _, hcell, hwz⟩
  · exact ⟨_, _, hcs, (Rd.of_row (.inl ⟨rfl, rfl, rfl, rfl⟩)).s⟩
  · exact ⟨_, _, hcs, (Rd.of_row (.inr ⟨_, rfl, hl, hm, by simpa using hz, hcell, hwz⟩)).s⟩
theorem Opens.list {α : Type} {E : Elt α} (ht : P.underlying t = some (.slice e)) (hc : P.cellsOf e = E.size) (hE : Opens P e E) : Opens P t (Elt.list E) := by
  intro H enc w base held fuel cs x h
  rcases open_slice ht h with ⟨rfl, _⟩ | ⟨a, len, cap, m, n, D, Pl, rfl, hb, hl, hm, hmm, _, hi⟩
  · exact ⟨[], _, rfl, RdL.nil _ _ _⟩
  · have hlm : len ≤ m := by rw [hmm]; split <;> omega
    obtain ⟨l, hll, hp⟩ := choose_list (p := fun i d => ∃ cs', E.R (· < w.heap.size) w d cs' ∧ ∀ j, j < cs'.length → w.cell? (a.add (i * E.size + j)) = cs'[j]?) len (fun i hil => by
      obtain ⟨cs', h1, h2⟩ := hi i (by omega)
      obtain ⟨d, hd⟩ := hE h2
      obtain ⟨_, hcl, hat⟩ := World.cells?_some h1
      refine ⟨d, cs', hd, fun j hj => ?_⟩
      have := hat j (by omega)
      rw [add_add, hc] at this
      exact this)
    refine ⟨l, _, rfl, ?_⟩
    rw [← hll] at hl ⊢
    refine ⟨some a, cap, rfl, hl, hm, ?_⟩
    rcases Nat.eq_zero_or_pos l.length with h0 | h0
    · exact .inl (List.eq_nil_of_length_eq_zero h0)
    · obtain ⟨cs0, hR0, hc0⟩ := hp 0 h0
      have hl0 := E.len hR0
      have hpos := E.pos
      have hcell := hc0 0 (by omega)
      rw [List.getElem?_eq_getElem (by omega)] at hcell
      obtain ⟨b, off, spot⟩ := a
      have hspot : spot = none := by simpa [Addr.add] using World.cell?_spot hcell
      subst hspot
      have hblt := World.block_lt_of_cell? w _ hcell
      refine .inr ⟨b, off, rfl, by simpa [Addr.add_lit] using hblt, fun r hr => ?_⟩
      obtain ⟨cs', hR, hcs⟩ := hp r hr
      refine ⟨cs', hR, fun j u hj => ?_⟩
      have := hcs j (List.getElem?_eq_some_iff.1 hj).1
      rw [hj, Addr.add_lit, ← Nat.add_assoc] at this
      exact this
theorem Opens.rdL {α : Type} {E : Elt α} (hO : Opens P t (Elt.list E)) {H : Type} {enc : TypeId × Value → H} {w : World} {base : Nat} {held : Bool} {fuel : Nat} {a : Option Addr} {n c : Nat} {x : DataW H × List MemPlace}
    (h : DataW.trod enc P w base (fun _ => true) held fuel t [.slice a n c] = some x) : ∃ xs, RdL E (· < w.heap.size) w (.slice a n c) xs := by
  obtain ⟨d, v, hv, hR⟩ := hO h
  cases hv
  exact ⟨d, hR⟩
end
end Go.Proofs.Ytobelnedhlepaaa
namespace Go.Proofs.Ytobelnedhlepaaa
open Go.RowKit
theorem slotIx_at : ∀ (l : List Oper) (k j : Nat) (o : Oper) (d : Tmp), (l.filterMap (·.dst)).Nodup → l[j]? = some o → o.dst = some d → slotIx l k d = some (k + j)
  | [], _, _, _, _, _, h, _ => by simp at h
  | o2 :: r, k, 0, o, d, _, hj, hd => by
    obtain rfl : o2 = o := by simpa using hj
    simp [slotIx, hd]
  | o2 :: r, k, j + 1, o, d, hn, hj, hd => by
    have hmem : d ∈ r.filterMap (·.dst) := List.mem_filterMap.2 ⟨o, List.mem_of_getElem? (by simpa using hj), hd⟩
    have hne : o2.dst ≠ some d := by
      intro e
      rw [List.filterMap_cons_some e, List.nodup_cons] at hn
      exact hn.1 hmem
    have hn' : (r.filterMap (·.dst)).Nodup := by
      cases hd2 : o2.dst with
      | none => rwa [List.filterMap_cons_none hd2] at hn
      | some d2 => rw [List.filterMap_cons_some hd2, List.nodup_cons] at hn; exact hn.2
    simp only [slotIx, if_neg hne]
    rw [slotIx_at r (k + 1) j o d hn' (by simpa using hj) hd]
    congr 1; omega
def gdB (ops : Array Oper) : Bool := (ops.toList.zipIdx.all fun p => p.1.after.all fun e => !Region.binds .any e || decide (e.on < p.2)) && slotsB ops.toList
theorem all_listed_gd {ops : Array Oper} {listed : Array Bool} (hs : gdB ops = true) (hr : Region.ready .any ops listed = []) : ∀ i, i < ops.size → listed.getD i true = true := by
  intro i
  induction i using Nat.strongRecOn with
  | ind i ih =>
    intro hi
    cases hl : listed.getD i true with
    | true => rfl
    | false =>
      exfalso
      have hm : i ∈ Region.ready .any ops listed := by
        unfold Region.ready
        refine List.mem_filter.2 ⟨List.mem_range.2 hi, ?_⟩
        have hdep : ∀ e ∈ (ops[i]'hi).after, Region.binds .any e = true → e.on < i := by
          intro e he hb
          simp only [gdB, Bool.and_eq_true, List.all_eq_true] at hs
          have := hs.1 ((ops[i]'hi), i) (by
            rw [List.mem_zipIdx_iff_getElem?]; simp [hi])
          rw [Array.all_eq_true'] at this
          have := this e he
          simpa [hb] using this
        simp only [hl, Array.getElem?_eq_getElem hi, Option.map_some, Option.getD_some, Bool.not_false, Bool.true_and]
        rw [Array.all_eq_true']
        intro e he
        cases hb : Region.binds .any e with
        | false => simp
        | true =>
          have hlt := hdep e he hb
          have := ih e.on hlt (by omega)
          simp only [Bool.not_true, Bool.false_or]
          revert this
          simp only [Array.getD_eq_getD_getElem?]
          cases hg : listed[e.on]? with
          | some b => simp
          | none =>
            exfalso
            rw [Array.getElem?_eq_none_iff] at hg
            simp only [Array.getD_eq_getD_getElem?, Array.getElem?_eq_none_iff.2 (show listed.size ≤ i by omega)] at hl
            cases hl
      rw [hr] at hm
      cases hm
section
variable {P : Program} {Q : Exit → Act → World → Prop}
def GdOp (P : Program) (Q : Exit → Act → World → Prop) (ops : Array Oper) (a : Act) (w : World) (G : Nat → World → Value → Prop) (i : Nat) (o : Oper) : Prop :=
  match o.guard with
  | none => SoftOp P Q ops a w G i o
  | some (j, b) => (∃ oj d, ops[j]? = some oj ∧ oj.dst = some d ∧ d < a.tmps.size) ∧ (o.after.any fun e => e.on == j && Region.binds .any e) = true ∧
      (((∀ w v, G j w v → v = .bool b) ∧ SoftOp P Q ops a w G i o) ∨ ((∀ w v, G j w v → v = .bool (!b) ∨ v = undef) ∧ ∀ w, G i w undef))
theorem GdOp.plain {ops : Array Oper} {a : Act} {w : World} {G : Nat → World → Value → Prop} {i : Nat} {o : Oper} (h : o.guard = none) (h2 : SoftOp P Q ops a w G i o) : GdOp P Q ops a w G i o := by
  unfold GdOp; rw [h]; exact h2
def GdAll (P : Program) (Q : Exit → Act → World → Prop) (ops : Array Oper) (a : Act) (w : World) (G : Nat → World → Value → Prop) : Nat → List Oper → Prop
  | _, [] => True
  | i, o :: rest => GdOp P Q ops a w G i o ∧ GdAll P Q ops a w G (i + 1) rest
theorem GdAll.get {ops : Array Oper} {a : Act} {w : World} {G : Nat → World → Value → Prop} : ∀ (l : List Oper) (k j : Nat) (o : Oper), GdAll P Q ops a w G k l → l[j]? = some o → GdOp P Q ops a w G (k + j) o
  | [], _, _, _, _, h => by simp at h
  | o' :: rest, k, 0, o, h, hj => by obtain rfl : o' = o := by simpa using hj
                                     exact h.1
  | o' :: rest, k, j + 1, o, h, hj => by rw [show k + (j + 1) = k + 1 + j by omega]; exact GdAll.get rest (k + 1) j o h.2 (by simpa using hj)
theorem wp_region_gd {id : Nat} {ops : Array Oper} {a : Act} {w : World} (hm : P.follows .mixedOrders = true) (hs : gdB ops = true) (G : Nat → World → Value → Prop)
    (hst : ∀ i w v w', G i w v → Below w.heap.size w w' → G i w' v) (hop : GdAll P Q ops a w G 0 ops.toList)
    (hend : ∀ (vs : Nat → Value) (w' : World), Below w.heap.size w w' → (∀ i, i < ops.size → G i w' (vs i)) → Q .normal (putAll a ops.toList vs 0) w') : (Code.region id ops true).wp P Q a w := by
  refine wp_region_any hm ?_
  have hnd : (ops.toList.filterMap (·.dst)).Nodup := by simp only [gdB, slotsB, Bool.and_eq_true, decide_eq_true_eq] at hs; exact hs.2
  have main : ∀ (fuel : Nat) (listed : Array Bool) (vs : Nat → Value) (w' : World), listed.size = ops.size → (unlisted ops.size listed).length ≤ fuel → Below w.heap.size w w' →
      (∀ i, i < ops.size → listed.getD i true = true → G i w' (vs i)) → wpAny P .any ops Q fuel listed (putAll a ops.toList vs 0) w' := by
    intro fuel
    induction fuel with
    | zero =>
      intro listed vs w' hsz hu hb hG
      have hall : ∀ i, i < ops.size → listed.getD i true = true := by
        intro i hi
        cases hl : listed.getD i true with
        | true => rfl
        | false =>
          have : i ∈ unlisted ops.size listed := List.mem_filter.2 ⟨List.mem_range.2 hi, by simp [hl]⟩
          rw [List.eq_nil_of_length_eq_zero (Nat.le_zero.1 hu)] at this
          cases this
      refine ⟨?_, hend vs w' hb (fun i hi => hG i hi (hall i hi))⟩
      unfold Region.ready
      rw [List.filter_eq_nil_iff]
      intro i hi
      simp [hall i (List.mem_range.1 hi)]
    | succ fuel ih =>
      intro listed vs w' hsz hu hb hG
      refine ⟨fun hr => hend vs w' hb (fun i hi => hG i hi (all_listed_gd hs hr i hi)), fun i hi => ?_⟩
      unfold Region.ready at hi
      obtain ⟨hi1, hi2⟩ := List.mem_filter.1 hi
      have hlt := List.mem_range.1 hi1
      rw [Bool.and_eq_true] at hi2
      obtain ⟨hl, hdep⟩ := hi2
      have hl' : listed.getD i true = false := by simpa using hl
      obtain ⟨o, ho⟩ : ∃ o, ops[i]? = some o := ⟨_, Array.getElem?_eq_getElem hlt⟩
      rw [ho] at hdep
      simp only [Option.map_some, Option.getD_some] at hdep
      rw [Array.all_eq_true'] at hdep
      have hgop := GdAll.get ops.toList 0 i o hop (by rw [Array.getElem?_toList]; exact ho)
      rw [Nat.zero_add] at hgop
      have hdepG : ∀ e ∈ o.after, Region.binds .any e = true → e.on < ops.size ∧ G e.on w' (vs e.on) := by
        intro e he hbn
        have h := hdep e he
        rw [hbn] at h
        simp only [Bool.not_true, Bool.false_or] at h
        have hin : e.on < listed.size := by
          rcases Nat.lt_or_ge e.on listed.size with h' | h'
          · exact h'
          · simp [Array.getD_eq_getD_getElem?, Array.getElem?_eq_none_iff.2 h'] at h
        refine ⟨by omega, hG e.on (by omega) ?_⟩
        simp only [Array.getD_eq_getD_getElem?, Array.getElem?_eq_getElem hin, Option.getD_some] at h ⊢
        exact h
      have step : ∀ (v : Value) (w2 : World), Below w'.heap.size w' w2 → G i w2 v → wpAny P .any ops Q fuel (listed.setIfInBounds i true) ((putAll a ops.toList vs 0).put o.dst v) w2 := by
        intro v w2 hb2 hg
        rw [putAll_put ops.toList a vs 0 i o v hnd (by rw [Array.getElem?_toList]; exact ho), Nat.zero_add]
        refine ih _ _ _ (by simp [hsz]) (by have := unlisted_set hsz hlt hl'; omega) (hb.trans (hb2.mono hb.size)) (fun j hj hlj => ?_)
        by_cases hji : j = i
        · subst hji; simpa [upd] using hg
        · have : upd vs i v j = vs j := by simp [upd, hji]
          rw [this]
          refine hst j w' _ w2 (hG j hj ?_) hb2
          simp only [Array.getD_eq_getD_getElem?, Array.getElem?_setIfInBounds_ne (Ne.symm hji)] at hlj ⊢
          exact hlj
      have run : SoftOp P Q ops a w G i o → o.wp P (putAll a ops.toList vs 0) w' (wpAny P .any ops Q fuel (listed.setIfInBounds i true)) Q := by
        intro hsoft
        have hwp := hsoft (putAll a ops.toList vs 0) vs w' (fun t h => eval_putAll_out _ _ _ _ _ h) (fun t j ht h => eval_putAll_in _ _ _ _ _ _ hnd ht h) hb (fun e he hbn => (hdepG e he hbn).2)
        refine Oper.wp_mono ?_ hwp
        rintro a2 w2 ⟨v, rfl, hg, hb2⟩
        exact step v w2 hb2 hg
      unfold wpOp
      simp only [ho]
      unfold GdOp at hgop
      cases hgd : o.guard with
      | none =>
        rw [hgd] at hgop
        simp only [Region.wanted, hgd, if_true]
        exact .inl (run hgop)
      | some p =>
        obtain ⟨j, b⟩ := p
        rw [hgd] at hgop
        obtain ⟨⟨oj, d, hoj, hd, hdlt⟩, hany, hcase⟩ := hgop
        rw [Array.any_eq_true'] at hany
        obtain ⟨e, he, hej⟩ := hany
        rw [Bool.and_eq_true, beq_iff_eq] at hej
        obtain ⟨rfl, hbn⟩ := hej
        have hgj := (hdepG e he hbn).2
        have hix : slotIx ops.toList 0 d = some e.on := by
          have := slotIx_at ops.toList 0 e.on oj d hnd (by rw [Array.getElem?_toList]; exact hoj) hd
          simpa using this
        have hev := eval_putAll_in ops.toList a vs 0 d e.on hnd hdlt hix
        have hy : ∀ c, vs e.on = .bool c → yielded ops (putAll a ops.toList vs 0).tmps e.on = some c := by
          intro c hc
          have h1 : (putAll a ops.toList vs 0).tmps.getD d undef = .bool c := by
            have h2 : (putAll a ops.toList vs 0).eval (.tmp d) = (putAll a ops.toList vs 0).tmps.getD d undef := rfl
            rw [← h2, hev]; exact hc
          rw [Array.getD_eq_getD_getElem?] at h1
          cases hx : (putAll a ops.toList vs 0).tmps[d]? with
          | none => rw [hx] at h1; exact absurd h1 (by simp [undef])
          | some u =>
            rw [hx] at h1
            simp only [Option.getD_some] at h1
            simp [yielded, hoj, hd, hx, h1]
        rcases hcase with ⟨hv, hsoft⟩ | ⟨hv, hun⟩
        · have hyes := hy b (hv _ _ hgj)
          simp only [Region.wanted, hgd, hyes, beq_self_eq_true, if_true]
          exact .inl (run hsoft)
        · have hw0 : Region.wanted o (yielded ops (putAll a ops.toList vs 0).tmps) = false := by
            rcases hv _ _ hgj with hv | hv
            · simp only [Region.wanted, hgd, hy (!b) hv]; cases b <;> rfl
            · have h1 : (putAll a ops.toList vs 0).tmps.getD d undef = undef := by
                have h2 : (putAll a ops.toList vs 0).eval (.tmp d) = (putAll a ops.toList vs 0).tmps.getD d undef := rfl
                rw [← h2, hev]; exact hv
              have h3 : yielded ops (putAll a ops.toList vs 0).tmps e.on = none := by
                rw [Array.getD_eq_getD_getElem?] at h1
                cases hx : (putAll a ops.toList vs 0).tmps[d]? with
                | none => simp [yielded, hoj, hd, hx]
                | some u =>
                  rw [hx] at h1
                  simp only [Option.getD_some] at h1
                  subst h1
                  simp [yielded, hoj, hd, hx, undef]
              simp only [Region.wanted, hgd, h3]; cases b <;> rfl
          simp only [hw0]
          exact step undef w' (Below.refl _ _) (hun w')
  have h0 := main ops.size (Array.replicate ops.size false) (fun i => ((ops[i]?).bind (·.dst)).elim undef (fun d => a.tmps.getD d undef)) { w with drawn := w.drawn + 1 } (by simp)
    (by have := List.length_filter_le (fun i => !(Array.replicate ops.size false).getD i true) (List.range ops.size); simpa [unlisted] using this) ⟨rfl, rfl, rfl, Nat.le_refl _, fun _ _ => rfl⟩
    (fun i hi h => by simp [Array.getD_eq_getD_getElem?, hi] at h)
  rw [putAll_orig ops.toList a _ 0 (fun j o d hj hd => by
    rw [Array.getElem?_toList] at hj
    simp [hj, hd])] at h0
  exact h0
theorem wp_region_gsg {id : Nat} {ops : Array Oper} {a : Act} {w : World} (hm : P.follows .mixedOrders = true) (hs : gdB ops = true) (Gs : List SG)
    (hop : GdAll P Q ops a w (fun i => (Gs.getD i sgAny).1) 0 ops.toList)
    (hend : ∀ (vs : Nat → Value) (w' : World), Below w.heap.size w w' → (∀ i, i < ops.size → (Gs.getD i sgAny).1 w' (vs i)) → Q .normal (putAll a ops.toList vs 0) w') : (Code.region id ops true).wp P Q a w :=
  wp_region_gd hm hs (fun i => (Gs.getD i sgAny).1) (fun i => (Gs.getD i sgAny).2) hop hend
end
end Go.Proofs.Ytobelnedhlepaaa
namespace Go.Proofs.Ytobelnedhlepaaa
open Go.RowKit
theorem byP : ByP Try.prog 55 5 9 := ⟨by kernel_rfl, by kernel_rfl, by kernel_rfl, by kernel_rfl⟩
end Go.Proofs.Ytobelnedhlepaaa
namespace Go.Proofs.Ytobelnedhlepaaa
open Go.RowKit
def NotU8 (v : Value) : Prop := ∀ i, v ≠ .int .u8 i
def IsBox (w : World) (t : TypeId) (b : Nat) : Prop := ∃ x y, w.heap[b]? = some (.cells #[x, y] t (0, 0)) ∧ NotU8 x ∧ NotU8 y
def BoxK (ok : Nat → Prop) (t : TypeId) (A B : World) : Prop := A = B ∨ ∃ b, ok b ∧ A.grownBy B (some b) ∧ IsBox A t b ∧ IsBox B t b
theorem grown_set (w : World) (g i : Nat) (z : Value) : w.grownBy (w.setCell ⟨g, i, none⟩ z) (some g) :=
  ⟨rfl, rfl, rfl, by simp [World.setCell], fun k _ hne => heap_setCell_other w ⟨g, i, none⟩ k z (fun e => hne (by simp [e]))⟩
section
variable {P : Program} {Q : Exit → Act → World → Prop}
def kk (ok : Nat → Prop) (t : TypeId) (m : Nat) (i : Nat) (A B : World) : Prop := if i = m then BoxK ok t A B else Below A.heap.size A B
end
section
variable {P : Program} {t : TypeId} {x0 y0 : Value} {o : Oper} {a : Act} {K : Act → World → Prop} {Q : Exit → Act → World → Prop} {w : World}
theorem run_sizeOf {ty : TypeId} {n : Nat} (h : (P.info? ty).map (·.size) = some n) (w : World) : (sizeOf ty).run P w = .ok n w := by
  cases hi : P.info? ty with
  | none => simp [hi] at h
  | some i => simp [hi] at h; simp [sizeOf, typeInfo, hi, h]
theorem wp_skip {w2 : World} (hrun : (execOp a.eval o).run P w = .ok .skip w2) (h : K (a.put o.dst undef) w2) : o.wp P a w K Q := by
  unfold Oper.wp
  rw [hrun]
  exact h
end
end Go.Proofs.Ytobelnedhlepaaa
namespace Go.Proofs.Ytobelnedhlepaaa
open Go.RowKit
def BoxN (W : World) (b : Nat) (t : TypeId) (vs : List Value) : Prop := W.heap[b]? = some (.cells vs.toArray t (0, 0))
section
variable {W W' : World} {b : Nat} {t : TypeId} {vs : List Value}
theorem BoxN.new (W : World) (t : TypeId) (vs : List Value) : BoxN (W.alloc (.cells vs.toArray t)) W.heap.size t vs := by unfold BoxN; simp only [World.alloc, Array.getElem?_push_size]
theorem BoxN.lt (h : BoxN W b t vs) : b < W.heap.size := (Array.getElem?_eq_some_iff.1 h).1
theorem BoxN.cell (h : BoxN W b t vs) {i : Nat} {u : Value} (hi : vs[i]? = some u) : W.cell? ⟨b, i, none⟩ = some u := by simp [World.cell?, show W.heap[b]? = _ from h, hi]
theorem BoxN.frozen (h : BoxN W b t vs) (i : Nat) : W.frozen? ⟨b, i, none⟩ = false := by simp [World.frozen?, show W.heap[b]? = _ from h]
theorem BoxN.below {n : Nat} (h : BoxN W b t vs) (hb : Below n W W') (hn : b < n) : BoxN W' b t vs := (hb.block b hn).trans h
theorem BoxN.other {c : Option Nat} (h : BoxN W b t vs) (hg : W.grownBy W' c) (hn : c ≠ some b) : BoxN W' b t vs := (hg.block b h.lt fun e => hn e.symm).trans h
end
section
variable {P : Program} {t : TypeId} {n : Nat} {ops : Array Oper} {rest : List Oper} {o : Oper} {a : Act} {K : Act → World → Prop} {Q : Exit → Act → World → Prop} {w : World}
theorem wp_boxNew {vs : List Value} (hz : (P.info? t).bind (·.zero) = some (.agg vs.toArray)) (ho : o.op = .alloc t) (h : ∀ w', Below w.heap.size w w' → BoxN w' w.heap.size t vs → K (a.put o.dst (.pointer (some ⟨w.heap.size, 0, none⟩))) w') : o.wp P a w K Q := by
  have hzz : (zeroValue t).run P w = .ok (.agg vs.toArray) w := by
    cases hi : P.info? t with
    | none => simp [hi] at hz
    | some i => simp [hi] at hz; simp [zeroValue, typeInfo, hi, hz]
  have hrun : (execOp a.eval o).run P w = .ok (.value (.pointer (some ⟨w.heap.size, 0, none⟩))) (w.alloc (.cells vs.toArray t)) := by
    simp [execOp, ho, newVar, hzz, Value.cells, go_sem]
  unfold Oper.wp
  rw [hrun]
  exact h _ ((Below.refl _ _).alloc (Nat.le_refl _) _) (BoxN.new w t vs)
theorem wpList_boxNew {vs : List Value} (hz : (P.info? t).bind (·.zero) = some (.agg vs.toArray)) (ho : o.op = .alloc t) (hgd : Region.wanted o (yielded ops a.tmps) = true) (h : ∀ w', Below w.heap.size w w' → BoxN w' w.heap.size t vs → wpList P ops Q rest (a.put o.dst (.pointer (some ⟨w.heap.size, 0, none⟩))) w') : wpList P ops Q (o :: rest) a w :=
  BigFrame.wpList_want hgd fun _ hK => wp_boxNew hz ho fun w' h1 h2 => hK _ _ (h w' h1 h2)
theorem wp_boxStore {vs us : List Value} {x y : Operand} {b : Nat} (hs : (P.info? t).map (·.size) = some us.length) (ho : o.op = .store t x y) (hx : a.eval x = .pointer (some ⟨b, 0, none⟩)) (hy : a.eval y = .agg us.toArray) (h1 : us.all (·.oneCell') = true) (hb : BoxN w b t vs) (hl : vs.length = us.length)
    (h : ∀ w', w.grownBy w' (some b) → BoxN w' b t us → K (a.put o.dst undef) w') : o.wp P a w K Q := by
  refine wp_store_row t x y ho b us.toArray hx hy t vs.toArray hb (by simpa using hs) (by simp [hl]) (by simpa using h1) (h _ ⟨rfl, rfl, rfl, by simp [World.setRow], fun k _ hk => ?_⟩ ?_)
  · have hkb : k ≠ b := fun e => hk (by rw [e])
    simp [World.setRow, Array.getElem?_modify, Ne.symm hkb]
  · unfold BoxN at hb ⊢
    simp [World.setRow, Array.getElem?_modify, hb]
theorem wpList_boxStore {vs us : List Value} {x y : Operand} {b : Nat} (hs : (P.info? t).map (·.size) = some us.length) (ho : o.op = .store t x y) (hd : o.dst = none) (hgd : Region.wanted o (yielded ops a.tmps) = true) (hx : a.eval x = .pointer (some ⟨b, 0, none⟩)) (hy : a.eval y = .agg us.toArray) (h1 : us.all (·.oneCell') = true) (hb : BoxN w b t vs) (hl : vs.length = us.length)
    (h : ∀ w', w.grownBy w' (some b) → BoxN w' b t us → wpList P ops Q rest a w') : wpList P ops Q (o :: rest) a w :=
  BigFrame.wpList_want hgd fun _ hK => wp_boxStore hs ho hx hy h1 hb hl fun w' h3 h4 => hK _ _ (by rw [hd]; exact h w' h3 h4)
theorem wp_boxSet {t2 : TypeId} {vs : List Value} {x y : Operand} {b j : Nat} {u : Value} (ho : o.op = .store t2 x y) (hs : (P.info? t2).map (·.size) = some 1) (hx : a.eval x = .pointer (some ⟨b, j, none⟩)) (hy : a.eval y = u) (hu : u.cells = #[u]) (h1 : u.oneCell' = true) (hb : BoxN w b t vs) (hj : j < vs.length)
    (h : ∀ w', w.grownBy w' (some b) → BoxN w' b t (vs.set j u) → K (a.put o.dst undef) w') : o.wp P a w K Q := by
  have hc := hb.cell (i := j) (List.getElem?_eq_getElem hj)
  have hf := hb.frozen j
  refine wp_skip ?_ (h (w.setCell ⟨b, j, none⟩ u) ⟨rfl, rfl, rfl, by simp [World.setCell], fun k _ hk => heap_setCell_other _ ⟨b, j, none⟩ k _ fun e => hk (by rw [e])⟩ ?_)
  · simp only [execOp, ho, hx, hy]
    have hu' := hu
    unfold Value.cells at hu'
    simp [Instr.storeAt, storeVar, run_sizeOf' hs, storeCells, hu', run_store _ _ _ _ _ h1, hc, hf, Addr.add, go_sem]
  · unfold BoxN at hb ⊢
    simp only [World.setCell, Array.getElem?_modify, hb]
    simp
theorem wpList_boxSet {t2 : TypeId} {vs : List Value} {x y : Operand} {b j : Nat} {u : Value} (ho : o.op = .store t2 x y) (hd : o.dst = none) (hgd : Region.wanted o (yielded ops a.tmps) = true) (hs : (P.info? t2).map (·.size) = some 1) (hx : a.eval x = .pointer (some ⟨b, j, none⟩)) (hy : a.eval y = u) (hu : u.cells = #[u]) (h1 : u.oneCell' = true) (hb : BoxN w b t vs) (hj : j < vs.length)
    (h : ∀ w', w.grownBy w' (some b) → BoxN w' b t (vs.set j u) → wpList P ops Q rest a w') : wpList P ops Q (o :: rest) a w :=
  BigFrame.wpList_want hgd fun _ hK => wp_boxSet ho hs hx hy hu h1 hb hj fun w' h3 h4 => hK _ _ (by rw [hd]; exact h w' h3 h4)
theorem wp_load2 (hP : StP P t 2) {x : Operand} {b off : Nat} {u v : Value} (ho : o.op = .load t x) (hx : a.eval x = .pointer (some ⟨b, off, none⟩)) (h0 : w.cell? ⟨b, off, none⟩ = some u) (h1 : w.cell? ⟨b, off + 1, none⟩ = some v) (h : K (a.put o.dst (.agg #[u, v])) w) : o.wp P a w K Q := by
  obtain ⟨fs, hu, hfs, hf⟩ := hP.hu
  refine wp_run' ?_ h
  simp only [execOp, ho, hx]
  simp [Instr.loadAt, loadVar, isAgg, run_underlying hu, run_sizeOf' hP.hs, loadCellsFrom, Addr.add, h0, h1, go_sem]
theorem wp_load4 (hP : StP P t 4) {x : Operand} {b off : Nat} {u v r s : Value} (ho : o.op = .load t x) (hx : a.eval x = .pointer (some ⟨b, off, none⟩)) (h0 : w.cell? ⟨b, off, none⟩ = some u) (h1 : w.cell? ⟨b, off + 1, none⟩ = some v) (h2 : w.cell? ⟨b, off + 2, none⟩ = some r) (h3 : w.cell? ⟨b, off + 3, none⟩ = some s) (h : K (a.put o.dst (.agg #[u, v, r, s])) w) : o.wp P a w K Q := by
  obtain ⟨fs, hu, hfs, hf⟩ := hP.hu
  refine wp_run' ?_ h
  simp only [execOp, ho, hx]
  simp [Instr.loadAt, loadVar, isAgg, run_underlying hu, run_sizeOf' hP.hs, loadCellsFrom, Addr.add, h0, h1, h2, h3, go_sem]
theorem wp_build2 (hP : StP P t 2) {x y : Operand} {u v : Value} (ho : o.op = .build t #[(0, x), (1, y)]) (hx : a.eval x = u) (hy : a.eval y = v) (hu1 : u.cells = #[u]) (hv1 : v.cells = #[v]) (h : K (a.put o.dst (.agg #[u, v])) w) : o.wp P a w K Q := by
  obtain ⟨fs, hu, hfs, hf⟩ := hP.hu
  obtain ⟨f0, g0, o0, s0⟩ := hf 0 (by omega)
  obtain ⟨f1, g1, o1, s1⟩ := hf 1 (by omega)
  obtain ⟨zs, hzs, hz0⟩ := hP.zero
  obtain ⟨l⟩ := fs
  obtain ⟨zl⟩ := zs
  match l, hfs with
  | [k0, k1], _ =>
    match zl, hzs with
    | [z0, z1], _ =>
      simp at g0 g1
      subst g0; subst g1
      refine wp_run' ?_ h
      simp only [execOp, ho, List.map_toArray, List.map_cons, List.map_nil, hx, hy]
      simp [Instr.build, run_underlying hu, hz0, run_sizeOf' s0, run_sizeOf' s1, Instr.fill, hu1, hv1, o0, o1, show (Value.agg #[z0, z1]).cells = #[z0, z1] from rfl]
end
end Go.Proofs.Ytobelnedhlepaaa
namespace Go.Proofs.Ytobelnedhlepaaa
def ltB (a b : List UInt8) : Bool := Op.bytesLess a b
end Go.Proofs.Ytobelnedhlepaaa
