/-
  TEXTS OF ONE PROOF, merged: Tab, Push, LkC, ModA, ModB, LkA, LkD.
-/
import Derived.ChangeArms
import Derived.LaidLaws
import Derived.MakeChecks
import Derived.Test.YtccoklhmbikfmaaDoorKa3
namespace Go.Proofs.YtccoklhmbikfmaaDoor
section
variable {H : Type} {enc : TypeId × Value → H} {P : Program} {w : World} {base : Nat} {sp : Nat → Bool} {held : Bool} {fuel : Nat}
def matB {H : Type} (rows : List (List Bool)) : DataW H := .agg (rows.map fun r => .agg (r.map fun b => .lit (.bool b)))
theorem cells_mat {t e b : TypeId} {n m : Nat} {cs : List Value} {rows : List (List Bool)} {p : List MemPlace} (ht : P.underlying t = some (.array n e)) (he : P.underlying e = some (.array m b)) (hb : P.underlying b = some .bool)
    (cb : P.cellsOf b = 1) (ce : P.cellsOf e = m) (h : DataW.trod enc P w base sp held fuel t cs = some (matB rows, p)) {i : Nat} {r : List Bool} (hi : rows[i]? = some r) {j : Nat} {v : Bool} (hj : r[j]? = some v) : cs[i * m + j]? = some (.bool v) := by
  obtain ⟨xs, f1, rfl, hx, _, hn, hel⟩ := DataW.trod_array ht h
  have hxs : rows.map (fun r => (.agg (r.map fun b => .lit (.bool b)) : DataW H)) = xs.map (·.1) := by
    have := congrArg Prod.fst hx
    simpa [matB] using this
  have h1 : (xs.map (·.1))[i]? = some (.agg (r.map fun b => .lit (.bool b)) : DataW H) := by rw [← hxs]; simp [hi]
  simp only [List.getElem?_map, Option.map_eq_some_iff] at h1
  obtain ⟨x, hxi, hx1⟩ := h1
  have hin : i < n := by have := (List.getElem?_eq_some_iff.1 hxi).1; omega
  have h2 := hel i hin
  rw [hxi, ce] at h2
  obtain ⟨ys, f2, rfl, hy, _, hm, hel2⟩ := DataW.trod_array he h2
  have hys : r.map (fun b => (.lit (.bool b) : DataW H)) = ys.map (·.1) := by
    rw [hy] at hx1
    simpa using hx1.symm
  have h3 : (ys.map (·.1))[j]? = some (.lit (.bool v) : DataW H) := by rw [← hys]; simp [hj]
  simp only [List.getElem?_map, Option.map_eq_some_iff] at h3
  obtain ⟨y, hyj, hy1⟩ := h3
  have hjm : j < m := by have := (List.getElem?_eq_some_iff.1 hyj).1; omega
  have h4 := hel2 j hjm
  rw [hyj, cb] at h4
  obtain ⟨b2, hc, rfl⟩ := DataW.trod_bool hb h4
  obtain rfl : b2 = v := by simpa using hy1
  have := congrArg (·[0]?) hc
  simpa [List.getElem?_take, List.getElem?_drop, hjm, Nat.add_comm] using this
end
theorem mat_of_laid {P : Program} {W : World} {name : String} {rows : List (List Bool)} {rest : List (String × DataW Unit)} {g : Nat} {t e b : TypeId} {n m : Nat} (hg : P.globalNamed name = some g) (hty : (P.globals[g]?).map (·.type) = some t)
    (ht : P.underlying t = some (.array n e)) (he : P.underlying e = some (.array m b)) (hb : P.underlying b = some .bool) (cb : P.cellsOf b = 1) (ce : P.cellsOf e = m) (h : laidMet P ((name, matB rows) :: rest) W)
    {i : Nat} {r : List Bool} (hi : rows[i]? = some r) {j : Nat} {v : Bool} (hj : r[j]? = some v) : W.cell? ⟨g, i * m + j, none⟩ = some (.bool v) := by
  obtain ⟨ps, ⟨g', t', cs, fuel, p, q, hg', ht', hvar, hd, _, _⟩, _⟩ := h
  obtain rfl := Option.some.inj (hg.symm.trans hg')
  obtain rfl := Option.some.inj (hty.symm.trans ht')
  have := World.var?_cell hg hvar (i * m + j)
  have hc := cells_mat ht he hb cb ce hd hi hj
  rw [this]
  simpa using hc
end Go.Proofs.YtccoklhmbikfmaaDoor
namespace Go.Proofs.YtccoklhmbikfmaaDoor
open Go.RowKit
structure Twb (w A : World) (r : Option Nat) (b : Nat) : Prop where
  os : A.os = w.os
  tape : A.tape = w.tape
  output : A.output = w.output
  size : w.heap.size ≤ A.heap.size
  block : ∀ k, k < w.heap.size → some k ≠ r → k ≠ b → A.heap[k]? = w.heap[k]?
section
variable {w0 w A B : World} {r : Option Nat} {b : Nat}
theorem Twb.of_below (h : Below w.heap.size w A) : Twb w A r b := ⟨h.os, h.tape, h.output, h.size, fun k hk _ _ => h.block k hk⟩
theorem Twb.below (h : Twb w A r b) (k : Below A.heap.size A B) : Twb w B r b :=
  ⟨k.os.trans h.os, k.tape.trans h.tape, k.output.trans h.output, Nat.le_trans h.size k.size, fun j h1 h2 h3 => (k.block j (Nat.lt_of_lt_of_le h1 h.size)).trans (h.block j h1 h2 h3)⟩
theorem Twb.row (h : Twb w A r b) (k : A.grownBy B r) : Twb w B r b :=
  ⟨k.os.trans h.os, k.tape.trans h.tape, k.output.trans h.output, Nat.le_trans h.size k.size, fun j h1 h2 h3 => (k.block j (Nat.lt_of_lt_of_le h1 h.size) h2).trans (h.block j h1 h2 h3)⟩
theorem Twb.box (h : Twb w A r b) (k : A.grownBy B (some b)) : Twb w B r b :=
  ⟨k.os.trans h.os, k.tape.trans h.tape, k.output.trans h.output, Nat.le_trans h.size k.size, fun j h1 h2 h3 => (k.block j (Nat.lt_of_lt_of_le h1 h.size) (fun e => h3 (by injection e))).trans (h.block j h1 h2 h3)⟩
theorem Twb.refl : Twb w w r b := ⟨rfl, rfl, rfl, Nat.le_refl _, fun _ _ _ _ => rfl⟩
theorem Twb.belowB (h : Twb w A r b) (q : Below w0.heap.size w0 w) (hr : ∀ k, r = some k → w0.heap.size ≤ k) (hb : w0.heap.size ≤ b) : Below w0.heap.size w0 A :=
  ⟨h.os.trans q.os, h.tape.trans q.tape, h.output.trans q.output, Nat.le_trans q.size h.size, fun k hk => (h.block k (Nat.lt_of_lt_of_le hk q.size) (fun e => by have := hr k e.symm; omega) (by omega)).trans (q.block k hk)⟩
theorem Twb.boxN {g : Nat} {t : TypeId} {vs : List Value} (h : Twb w A r b) (hT : BoxN w g t vs) (hr : some g ≠ r) (hb : g ≠ b) : BoxN A g t vs := (h.block g hT.lt hr hb).trans hT
end
def Elt.but {α : Type} (E : Elt α) (b : Nat) : Elt α where
  size := E.size
  pos := E.pos
  R S w x vs := E.R (fun k => S k ∧ k ≠ b) w x vs
  len h := E.len h
  keep h hk := E.keep h fun k h2 => hk k h2.1
  weak h hs := E.weak h fun k h2 => ⟨hs k h2.1, h2.2⟩
  fit h := E.weak (E.fit h) fun _ h2 => ⟨⟨h2.1.1, h2.2⟩, h2.1.2⟩
  one h := E.one h
section
variable {α : Type} {E : Elt α} {Te : TypeId} {base lo : Nat} {b : Nat} {w w' : World} {v : Value} {xs : List α}
theorem Flat.but {S : Nat → Prop} (h : ∀ k, S k → k ≠ b) : ∀ {xs : List α} {vs : List Value}, Flat E S w xs vs → Flat (Elt.but E b) S w xs vs
  | [], _, hf => hf
  | _ :: _, _, ⟨us, ws, e, h1, h2⟩ => ⟨us, ws, e, E.weak h1 fun k hk => ⟨hk, h k hk⟩, Flat.but h h2⟩
theorem Flat.unbut {S : Nat → Prop} : ∀ {xs : List α} {vs : List Value}, Flat (Elt.but E b) S w xs vs → Flat E S w xs vs
  | [], _, hf => hf
  | _ :: _, _, ⟨us, ws, e, h1, h2⟩ => ⟨us, ws, e, E.weak h1 fun _ hk => hk.1, Flat.unbut h2⟩
theorem OwnL.but (h : OwnL E Te base lo w v xs) (hb : ∀ k, lo ≤ k → k < w.heap.size → k ≠ b) : OwnL (Elt.but E b) Te base lo w v xs := by
  obtain ⟨vs, h1, h2⟩ := h
  exact ⟨vs, h1, Flat.but (fun k hk => hb k hk.1 hk.2.1) h2⟩
theorem OwnL.unbut (h : OwnL (Elt.but E b) Te base lo w v xs) : OwnL E Te base lo w v xs := by
  obtain ⟨vs, h1, h2⟩ := h
  exact ⟨vs, h1, Flat.unbut h2⟩
theorem Flat.butKeep {S : Nat → Prop} (hk : ∀ k, S k → k ≠ b → w'.heap[k]? = w.heap[k]?) : ∀ {xs : List α} {vs : List Value}, Flat (Elt.but E b) S w xs vs → Flat (Elt.but E b) S w' xs vs
  | [], _, hf => hf
  | _ :: _, _, ⟨us, ws, e, h1, h2⟩ => ⟨us, ws, e, E.keep h1 fun k h3 => hk k h3.1 h3.2, Flat.butKeep hk h2⟩
theorem OwnL.butOther (h : OwnL (Elt.but E b) Te base lo w v xs) (hg : w.grownBy w' (some b)) (hv : v.ownBlock ≠ some b) : OwnL (Elt.but E b) Te base lo w' v xs := by
  obtain ⟨vs, h1, h2⟩ := h
  refine ⟨vs, h1.kept hg (.inr fun e => hv e), ?_⟩
  exact (Flat.butKeep (fun k hk hb => hg.block k hk.2.1 fun e => by injection e with e; exact hb e) h2).weak fun k hk => ⟨hk.1, Nat.lt_of_lt_of_le hk.2.1 hg.size, hk.2.2⟩
end
def PshJ {α : Type} (E : Elt α) (Te : TypeId) (base lo : Nat) (r : Option Nat) (b : Nat) (t : TypeId) (vs : List Value) (f : Nat) (W : World) (xs : List α) (x : α) : List Value → World → Prop
  | [], V => Below W.heap.size W V
  | [v], V => Below W.heap.size W V ∧ ∃ us : List Value, v.cells = us.toArray ∧ E.R (fun k => W.heap.size ≤ k ∧ k < V.heap.size) V x us
  | [_, s], V => Twb W V r b ∧ ∃ ad c, s = .slice ad (xs ++ [x]).length c ∧ OwnL (Elt.but E b) Te base lo V (.slice ad (xs ++ [x]).length c) (xs ++ [x]) ∧ BoxN V b t vs ∧ Value.ownBlock (.slice ad (xs ++ [x]).length c) ≠ some b
  | _, V => Twb W V r b ∧ ∃ ad c, OwnL (Elt.but E b) Te base lo V (.slice ad (xs ++ [x]).length c) (xs ++ [x]) ∧ BoxN V b t (vs.set f (.slice ad (xs ++ [x]).length c)) ∧ Value.ownBlock (.slice ad (xs ++ [x]).length c) ≠ some b
section
variable {α : Type} {E : Elt α} {Te : TypeId} {base lo : Nat} {r : Option Nat} {b : Nat} {t : TypeId} {vs : List Value} {f : Nat} {W : World} {xs : List α} {x : α}
theorem PshJ.below : ∀ (l : List Value) (V V' : World), PshJ E Te base lo r b t vs f W xs x l V → Below V.heap.size V V' → PshJ E Te base lo r b t vs f W xs x l V'
  | [], _, _, h, hb => Below.trans h (hb.mono (Below.size h))
  | [_], _, _, ⟨h, us, e, h1⟩, hb => ⟨h.trans (hb.mono h.size), us, e, E.weak (Elt.below h1 hb) fun _ hk => ⟨hk.1, Nat.lt_of_lt_of_le hk.2 hb.size⟩⟩
  | [_, _], _, _, ⟨h, ad, c, e, h1, h2, h3⟩, hb => ⟨h.below hb, ad, c, e, h1.below hb, h2.below hb h2.lt, h3⟩
  | _ :: _ :: _ :: _, _, _, ⟨h, ad, c, h1, h2, h3⟩, hb => ⟨h.below hb, ad, c, h1.below hb, h2.below hb h2.lt, h3⟩
theorem PshJ.two : ∀ {l : List Value} {V : World}, PshJ E Te base lo r b t vs f W xs x l V → Twb W V r b
  | [], _, h => Twb.of_below h
  | [_], _, ⟨h, _⟩ => Twb.of_below h
  | [_, _], _, ⟨h, _⟩ => h
  | _ :: _ :: _ :: _, _, ⟨h, _⟩ => h
theorem PshJ.early {V : World} {vl : List Value} (h : PshJ E Te base lo r b t vs f W xs x vl V) (hk : vl.length ≤ 1) : Below W.heap.size W V := by
  match vl, h with
  | [], h => exact h
  | [_], h => exact h.1
  | _ :: _ :: _, _ => simp at hk
def pRow {α : Type} (E : Elt α) (Te : TypeId) (W : World) (r : Option Nat) (b : Nat) (x : α) (hr : ∀ k, r = some k → k < W.heap.size) (hb : b < W.heap.size) : SGn (fun A B => Twb A B r b) :=
  ⟨fun w v => ∃ g, ∃ us : List Value, v = .slice (some ⟨g, 0, none⟩) 1 1 ∧ W.heap.size ≤ g ∧ w.heap[g]? = some (.cells us.toArray Te (0, 0)) ∧ E.R (fun k => W.heap.size ≤ k ∧ k < w.heap.size) w x us,
  fun _ _ _ ⟨g, us, h, h0, hc, hR⟩ hb => ⟨g, us, h, h0, (hb.block g (Array.getElem?_eq_some_iff.1 hc).1).trans hc, E.weak (Elt.below hR hb) fun _ hk => ⟨hk.1, Nat.lt_of_lt_of_le hk.2 hb.size⟩⟩,
  fun _ _ _ ⟨g, us, h, h0, hc, hR⟩ hk => ⟨g, us, h, h0, (hk.block g (Array.getElem?_eq_some_iff.1 hc).1 (fun e => by have := hr g e.symm; omega) (fun e => by omega)).trans hc, E.weak (E.keep hR fun k hh => hk.block k hh.2 (fun e => by have := hr k e.symm; omega) (fun e => by omega)) fun _ hh => ⟨hh.1, Nat.lt_of_lt_of_le hh.2 hk.size⟩⟩⟩
theorem PshJ.app {V V' : World} {v : Value} {v0 : Value} {ad : Option Addr} {c : Nat} (h : PshJ E Te base lo r b t vs f W xs x [v] V) (hB : BoxN W b t vs) (hO : OwnL (Elt.but E b) Te base lo V' (.slice ad (xs ++ [x]).length c) (xs ++ [x])) (hg : V.grownBy V' r) (hbr : r ≠ some b) (ho : Value.ownBlock (.slice ad (xs ++ [x]).length c) = r ∨ Value.ownBlock (.slice ad (xs ++ [x]).length c) = some V.heap.size) :
    PshJ E Te base lo r b t vs f W xs x [v0, .slice ad (xs ++ [x]).length c] V' :=
  ⟨(Twb.of_below h.1).row hg, ad, c, rfl, hO, (hB.below h.1 hB.lt).other hg hbr, by
    rcases ho with e | e
    · rw [e]; exact hbr
    · rw [e]; intro e2; injection e2 with e2; have := hB.lt; have := h.1.size; omega⟩
theorem PshJ.sto {V V' : World} {v s u v0 s0 : Value} {ad : Option Addr} {c : Nat} (h : PshJ E Te base lo r b t vs f W xs x [v, s] V) (hO : OwnL (Elt.but E b) Te base lo V (.slice ad (xs ++ [x]).length c) (xs ++ [x])) (hn : Value.ownBlock (.slice ad (xs ++ [x]).length c) ≠ some b) (hg : V.grownBy V' (some b)) (hB : BoxN V' b t (vs.set f (.slice ad (xs ++ [x]).length c))) :
    PshJ E Te base lo r b t vs f W xs x [v0, s0, u] V' :=
  ⟨h.1.box hg, ad, c, hO.butOther hg hn, hB, hn⟩
end
end Go.Proofs.YtccoklhmbikfmaaDoor
namespace Go.Proofs.YtccoklhmbikfmaaDoor
open Go.RowKit Go.Shelf
def smK (l : List Lk) : Prop := l.length ≤ 1000000 ∧ ∀ x ∈ l, x.span.lo.length ≤ 1000000 ∧ x.span.hi.length ≤ 1000000
def OwnKs (B : Nat) (w : World) (a a2 : Option Addr) (c c2 : Nat) (H Q : List Lk) : Prop := ∃ D : Nat → Prop, OwnF Elt.lk 29 D w (.slice a H.length c) H ∧ OwnF Elt.lk 29 D w (.slice a2 Q.length c2) Q ∧
  (∀ k, D k → B ≤ k ∧ k < w.heap.size ∧ Value.ownBlock (.slice a H.length c) ≠ some k ∧ Value.ownBlock (.slice a2 Q.length c2) ≠ some k) ∧ (∀ k, Value.ownBlock (.slice a H.length c) = some k → B ≤ k ∧ Value.ownBlock (.slice a2 Q.length c2) ≠ some k) ∧ ∀ k, Value.ownBlock (.slice a2 Q.length c2) = some k → B ≤ k
theorem OwnKs.rd {B : Nat} {w : World} {a a2 : Option Addr} {c c2 : Nat} {H Q : List Lk} (h : OwnKs B w a a2 c c2 H Q) : RdLs (fun k => B ≤ k ∧ k < w.heap.size) w (.agg #[.slice a H.length c, .slice a2 Q.length c2]) H Q := by
  obtain ⟨D, h1, h2, h3, h4, h5⟩ := h
  exact ⟨a, c, a2, c2, rfl, h1.rdL.weak fun k hk => hk.elim (fun h => ⟨(h3 k h).1, (h3 k h).2.1⟩) fun h => ⟨(h4 k h).1, h1.lt h⟩, h2.rdL.weak fun k hk => hk.elim (fun h => ⟨(h3 k h).1, (h3 k h).2.1⟩) fun h => ⟨h5 k h, h2.lt h⟩⟩
theorem OwnKs.below {B : Nat} {w w' : World} {a a2 : Option Addr} {c c2 : Nat} {H Q : List Lk} (h : OwnKs B w a a2 c c2 H Q) (hb : Below w.heap.size w w') : OwnKs B w' a a2 c c2 H Q := by
  obtain ⟨D, h1, h2, h3, h4, h5⟩ := h
  exact ⟨D, h1.below hb fun k hk => (h3 k hk).2.1, h2.below hb fun k hk => (h3 k hk).2.1, fun k hk => ⟨(h3 k hk).1, Nat.lt_of_lt_of_le (h3 k hk).2.1 hb.size, (h3 k hk).2.2⟩, h4, h5⟩
theorem OwnKs.grown {B : Nat} {w w' : World} {a a2 : Option Addr} {c c2 : Nat} {H Q : List Lk} {b : Nat} (h : OwnKs B w a a2 c c2 H Q) (hg : w.grownBy w' (some b)) (hb : b < B) : OwnKs B w' a a2 c c2 H Q := by
  obtain ⟨D, h1, h2, h3, h4, h5⟩ := h
  have hD : ∀ k, D k → w'.heap[k]? = w.heap[k]? := fun k hk => hg.block k (h3 k hk).2.1 fun e => by injection e with e; have := (h3 k hk).1; omega
  exact ⟨D, h1.kept (fun k hk => hg.block k (h1.lt hk) fun e => by injection e with e; have := (h4 k hk).1; omega) hD, h2.kept (fun k hk => hg.block k (h2.lt hk) fun e => by injection e with e; have := h5 k hk; omega) hD, fun k hk => ⟨(h3 k hk).1, Nat.lt_of_lt_of_le (h3 k hk).2.1 hg.size, (h3 k hk).2.2⟩, h4, h5⟩
set_option maxRecDepth 100000 in
set_option maxHeartbeats 4000000 in
theorem lCopied_any (w : World) {S : Nat → Prop} {v : Value} {H Q : List Lk} (h : RdLs S w v H Q) (hH : smK H) (hQ : smK Q) :
    Calls Tryd.prog 39 #[v] w fun e w' => ∃ a c a2 c2, e = .returned (.agg #[.slice a H.length c, .slice a2 Q.length c2]) ∧ OwnKs w.heap.size w' a a2 c c2 H Q ∧ Below w.heap.size w w' := by
  obtain ⟨hlH, hsH⟩ := hH
  obtain ⟨hlQ, hsQ⟩ := hQ
  obtain ⟨a, c, a2, c2, rfl, hH, hQ⟩ := h
  obtain ⟨W0, hW, q, bn, bz, hsz⟩ := boxes2 w 24 24 [.slice a H.length c, .slice a2 Q.length c2] [.slice none 0 0, .slice none 0 0]
  have eA : ∀ args w, (callFunc 43 args).run Tryd.prog w = .ok (.enter 43 args) w := enters_of Tryd.func43 (by kernel_rfl) rfl
  go_enter Tryd.func39, Tryd.ntmps39
  go_upto_region 1 with (fail)
  rw [show (w.alloc (.cells #[.slice a H.length c, .slice a2 Q.length c2] 24)).alloc (.cells #[.slice none 0 0, .slice none 0 0] 24) = W0 from hW.symm]
  clear hW hsz
  have zW := bz.lt
  go_upto_region 2 with (first | (refine wpList_boxNew (vs := [.slice none 0 0, .slice none 0 0]) (by kernel_rfl) rfl rfl ?_; intro w1 hb1 hB1) | fail)
  have q1 := q.trans (hb1.mono q.size)
  have z1 := hB1.lt
  have b0 := (bn.below hb1 bn.lt).cell (i := 0) rfl
  go_upto_region 3 with (fail)
  clear b0
  go_loopw [11] (fun iv wr => ∃ (k : Nat) (ad : Option Addr) (ko : Nat), iv = .int .i64 k ∧ k ≤ H.length ∧ OwnL Elt.lk 29 (W0.heap.size + 1) (W0.heap.size + 1) wr (.slice ad (H.take k).length ko) (H.take k) ∧ BoxN wr W0.heap.size 24 [.slice ad (H.take k).length ko, .slice none 0 0] ∧ Below W0.heap.size W0 wr)
    (fun i _ => H.length - (intOf i).toNat)
  case atStart => exact ⟨0, none, 0, rfl, Nat.zero_le _, OwnL.nil _ _ _ _ _, hB1, hb1⟩
  case round =>
    clear hB1 hb1 q1
    obtain ⟨k, ad, ko, rfl, hkl, hO, hB, qr⟩ := hrel
    have q1 := q.trans (qr.mono q.size)
    have zr := qr.size
    have q0 := q
    replace q := q1
    clear q1
    rcases Nat.lt_or_ge k H.length with hlt | hge
    · obtain ⟨b, off, KA, KC, VA, VC, rfl, hb, c0, c1, c2, c3, c4, c5, c6, hk1, hk2, hw64⟩ := (hH.below q).lk k hlt
      obtain ⟨hx1, hx2⟩ := hsH _ (List.getElem_mem hlt)
      have hsn := Lib.hid (show H.take (k + 1) = H.take k ++ [H[k]] from List.take_succ_eq_append_getElem hlt)
      obtain ⟨x, ex⟩ : ∃ x, x = H[k] := ⟨_, rfl⟩
      obtain ⟨xs, exs⟩ : ∃ xs, xs = H.take k := ⟨_, rfl⟩
      have hxl : xs.length ≤ 1000000 := by rw [exs, List.length_take]; omega
      rw [← ex] at c0 c1 c2 c3 c4 c5 c6 hk1 hk2 hw64 hx1 hx2 hsn
      rw [← exs] at hO hB hsn
      clear ex exs
      have hx : RdLk S wr (.agg #[.int .i64 x.owner, .bool x.whole, .int .i64 x.span.table, .slice KA x.span.lo.length KC, .slice VA x.span.hi.length VC, .bool x.span.isOpen, .int .i64 x.mode]) x := ⟨KA, KC, VA, VC, rfl, hk1, hk2, hw64⟩
      go_upto_region 5 with (first | (refine wpList_boxNew (vs := [.int .i64 0, .bool false, .int .i64 0, .slice none 0 0, .slice none 0 0, .bool false, .int .i64 0]) (by kernel_rfl) rfl rfl ?_; intro wa hba hBa) | (refine wpList_boxStore (us := [.int .i64 x.owner, .bool x.whole, .int .i64 x.span.table, .slice KA x.span.lo.length KC, .slice VA x.span.hi.length VC, .bool x.span.isOpen, .int .i64 x.mode]) (by kernel_rfl) rfl rfl rfl rfl rfl rfl hBa rfl ?_; intro W hgw hXW) | fail)
      go_simp
      have hbw : Below wr.heap.size wr W := hba.grown hgw hba.size fun k hk => by injection hk with hk; omega
      have qW := qr.trans (hbw.mono qr.size)
      have hsW := hXW.lt
      have hBlt := hB.lt
      have hBW := hB.below hbw hB.lt
      have hrr : ∀ k, Value.ownBlock (.slice ad xs.length ko) = some k → (W0.heap.size + 1) ≤ k ∧ k < wr.heap.size := fun k hk => hO.block_lt k hk
      have hrW : ∀ k, Value.ownBlock (.slice ad xs.length ko) = some k → k < W.heap.size := fun k hk => by have := hrr k hk; omega
      replace hO := (hO.below hbw).but (b := W0.heap.size) (fun k hk _ => by omega)
      replace hx := hx.below hbw
      have hlo : (W0.heap.size + 1) ≤ W.heap.size := by omega
      have hxr : some wr.heap.size ≠ Value.ownBlock (.slice ad xs.length ko) := fun e => by have := hrr _ e.symm; omega
      have hxb : wr.heap.size ≠ W0.heap.size := by omega
      have hbr : Value.ownBlock (.slice ad xs.length ko) ≠ some W0.heap.size := fun e => by have := hrr _ e; omega
      have hb1 : W0.heap.size < (W0.heap.size + 1) := by omega
      clear c0 c1 c2 c3 c4 c5 c6 hk1 hk2 hba hBa hgw hbw hB q
      refine wp_region_lnl (K := fun A B => Twb A B (Value.ownBlock (.slice ad xs.length ko)) (W0.heap.size)) (by kernel_rfl) (by kernel_rfl) [3, 5, 7] (by kernel_rfl) [lEq (.pointer (some ⟨W0.heap.size, 0 + 0, none⟩)), lEq (.slice ad xs.length ko), lEq (.agg #[.int .i64 x.owner, .bool x.whole, .int .i64 x.span.table, .slice KA x.span.lo.length KC, .slice VA x.span.hi.length VC, .bool x.span.isOpen, .int .i64 x.mode]), lAny, pRow Elt.lk 29 (W) (Value.ownBlock (.slice ad xs.length ko)) (W0.heap.size) x hrW hBW.lt, lAny, lEq (.pointer (some ⟨W0.heap.size, 0 + 0, none⟩)), lAny] (PshJ Elt.lk 29 ((W0.heap.size + 1)) ((W0.heap.size + 1)) (Value.ownBlock (.slice ad xs.length ko)) (W0.heap.size) 24 [.slice ad xs.length ko, .slice none 0 0] 0 (W) (xs) x) PshJ.below (show Below (W).heap.size (W) (W) from Below.refl _ _)
        ⟨?o0, ?o1, ?o2, ?o3, ?o4, ?o5, ?o6, ?o7, trivial⟩ ?fin
      case o0 =>
        refine LnOp.side rfl (by kernel_rfl) (fun A va w' k hF hT hk hJ hb hu hp hd => ?_)
        have e1 : A.eval (.tmp 3) = .pointer (some ⟨W0.heap.size, 0, none⟩) := hF 3 rfl
        exact wp_fieldN lsS rfl (e1) (by omega) ⟨_, rfl, rfl, Below.refl _ _⟩
      case o1 =>
        refine LnOp.side rfl (by kernel_rfl) (fun A va w' k hF hT hk hJ hb hu hp hd => ?_)
        have e1 : A.eval (.tmp 15) = .pointer (some ⟨W0.heap.size, 0 + 0, none⟩) := (hT 15 0 (by simp) rfl).trans (hd ⟨0, .data⟩ (by simp) rfl rfl)
        have hk1 : k ≤ 1 := hb 1 5 rfl (by kernel_rfl)
        have hJ0 := PshJ.early hJ (by simp only [List.length_map, List.length_take]; omega)
        exact wp_ld_slice (e := 29) rfl e1 (by kernel_rfl) ((hBW.below hJ0 hBW.lt).cell (i := 0) rfl) ⟨_, rfl, rfl, Below.refl _ _⟩
      case o2 =>
        refine LnOp.side rfl (by kernel_rfl) (fun A va w' k hF hT hk hJ hb hu hp hd => ?_)
        have e1 : A.eval (.tmp 5) = .pointer (some ⟨wr.heap.size, 0, none⟩) := hF 5 rfl
        have hX2 := (PshJ.two hJ).boxN hXW hxr hxb
        exact wp_loadU (us := [.int .i64 x.owner, .bool x.whole, .int .i64 x.span.table, .slice KA x.span.lo.length KC, .slice VA x.span.hi.length VC, .bool x.span.isOpen, .int .i64 x.mode]) lkS rfl e1 (fun j u hj => by rw [Nat.zero_add]; exact hX2.cell hj) ⟨_, rfl, rfl, Below.refl _ _⟩
      case o3 =>
        refine LnOp.line 0 rfl rfl (fun A va w' hF hT hJ hu hd => ?_)
        have e1 : A.eval (.tmp 17) = .agg #[.int .i64 x.owner, .bool x.whole, .int .i64 x.span.table, .slice KA x.span.lo.length KC, .slice VA x.span.hi.length VC, .bool x.span.isOpen, .int .i64 x.mode] := (hT 17 2 (by simp) rfl).trans (hd ⟨2, .data⟩ (by simp) rfl rfl)
        have hJ0 : Below (W).heap.size (W) w' := hJ
        refine wp_callFn rfl eA (by simp only [List.map_toArray, List.map_cons, List.map_nil, e1]) ((lAlone_any w' (hx.below hJ0) hx1 hx2).mono ?_)
        rintro e w2 ⟨v2, rfl, ⟨ka, kc, va2, vc, rfl, hk2, hv2, ht2⟩, hb2⟩
        have hR : Elt.lk.R (fun k => W.heap.size ≤ k ∧ k < w2.heap.size) w2 x (lkC x (.slice ka x.span.lo.length kc) (.slice va2 x.span.hi.length vc)) := ⟨_, _, rfl, hk2.weak fun k hk => ⟨Nat.le_trans hJ0.size hk.1, hk.2⟩, hv2.weak fun k hk => ⟨Nat.le_trans hJ0.size hk.1, hk.2⟩, ht2⟩
        exact ⟨_, rfl, _, rfl, ⟨hJ0.trans (hb2.mono hJ0.size), _, rfl, hR⟩, (Twb.refl (r := Value.ownBlock (.slice ad xs.length ko)) (b := W0.heap.size)).below hb2⟩
      case o4 =>
        refine LnOp.side rfl (by kernel_rfl) (fun A va w' k hF hT hk hJ hb hu hp hd => ?_)
        have x1 : A.eval (.tmp 18) = va 3 := hT 18 3 (by simp) rfl
        obtain rfl : k = 1 := by
          have h1 := hp ⟨3, .data⟩ (by simp) rfl 0 rfl
          have h2 := hb 1 5 rfl (by kernel_rfl)
          omega
        obtain ⟨hJ0, us, eus, hR⟩ := hJ
        have hb1 : Below w'.heap.size w' (w'.alloc (.cells us.toArray 29)) := (Below.refl _ _).alloc (Nat.le_refl _) _
        exact wp_buildOne lkP rfl x1 eus (Elt.len _ hR) (by decide) (by decide) ⟨_, rfl, ⟨_, us, rfl, hJ0.size, by simp only [World.alloc, Array.getElem?_push_size], Elt.weak _ (Elt.below hR hb1) fun k hk => ⟨hk.1, Nat.lt_of_lt_of_le hk.2 hb1.size⟩⟩, hb1⟩
      case o5 =>
        refine LnOp.line 1 rfl rfl (fun A va w' hF hT hJ hu hd => ?_)
        have e1 : A.eval (.tmp 16) = .slice ad xs.length ko := (hT 16 1 (by simp) rfl).trans (hd ⟨1, .data⟩ (by simp) rfl rfl)
        have x2 : A.eval (.tmp 19) = va 4 := hT 19 4 (by simp) rfl
        have y2 := hd ⟨4, .data⟩ (by simp) rfl rfl
        have hJ' := hJ
        obtain ⟨hJ0, _⟩ := hJ
        obtain ⟨g, us, eg, hg0, hgc, hgR⟩ : ∃ g, ∃ us : List Value, va 4 = .slice (some ⟨g, 0, none⟩) 1 1 ∧ (W).heap.size ≤ g ∧ w'.heap[g]? = some (.cells us.toArray 29 (0, 0)) ∧ Elt.R Elt.lk (fun k => (W).heap.size ≤ k ∧ k < w'.heap.size) w' x us := y2
        refine wp_appendL (E := Elt.but Elt.lk (W0.heap.size)) (ys := [x]) lkP rfl e1 (hO.below hJ0) (x2.trans eg) (fun j u hj => by rw [Addr.add_lit, World.cell?, hgc]; simpa using hj) (Flat.single (Elt.weak Elt.lk hgR fun k hk => ⟨hk, fun e => by have := hk.1; have := hBW.lt; omega⟩)) (fun k hk => ⟨Nat.le_trans hlo hk.1, hk.2, fun e => by have := hrW k e.symm; omega⟩) (Nat.le_trans hlo hJ0.size) (fun ad7 k7 cap7 w2 h2 hg h3 => ?_) (by simp; omega)
        obtain rfl : k7 = (xs ++ [x]).length := h2.len
        exact ⟨_, rfl, PshJ.app hJ' hBW h2 hg hbr h3, (Twb.refl (b := W0.heap.size)).row hg⟩
      case o6 =>
        refine LnOp.side rfl (by kernel_rfl) (fun A va w' k hF hT hk hJ hb hu hp hd => ?_)
        have e1 : A.eval (.tmp 3) = .pointer (some ⟨W0.heap.size, 0, none⟩) := hF 3 rfl
        exact wp_fieldN lsS rfl (e1) (by omega) ⟨_, rfl, rfl, Below.refl _ _⟩
      case o7 =>
        refine LnOp.line 2 rfl rfl (fun A va w' hF hT hJ hu hd => ?_)
        have e1 : A.eval (.tmp 21) = .pointer (some ⟨W0.heap.size, 0 + 0, none⟩) := (hT 21 6 (by simp) rfl).trans (hd ⟨6, .data⟩ (by simp) rfl rfl)
        have x2 : A.eval (.tmp 20) = va 5 := hT 20 5 (by simp) rfl
        have hJ' := hJ
        obtain ⟨hJ0, ad7, c7, es, hOs, hBs, hn7⟩ := hJ
        refine wp_boxSet (j := 0) rfl (by kernel_rfl) e1 (x2.trans es) rfl rfl hBs (by simp) (fun w2 hg hB2 => ?_)
        exact ⟨_, rfl, PshJ.sto hJ' hOs hn7 hg hB2, (Twb.refl (r := Value.ownBlock (.slice ad xs.length ko))).box hg⟩
      case fin =>
        intro vs1 W9 hJ hG
        obtain ⟨htw, ad9, c9, hO9, hB9, hn9⟩ := hJ
        have g0 : vs1 0 = .pointer (some ⟨W0.heap.size, 0 + 0, none⟩) := hG 0 (by decide) rfl
        have g1 : vs1 1 = .slice ad xs.length ko := hG 1 (by decide) rfl
        have g2 : vs1 2 = .agg #[.int .i64 x.owner, .bool x.whole, .int .i64 x.span.table, .slice KA x.span.lo.length KC, .slice VA x.span.hi.length VC, .bool x.span.isOpen, .int .i64 x.mode] := hG 2 (by decide) rfl
        have g6 : vs1 6 = .pointer (some ⟨W0.heap.size, 0 + 0, none⟩) := hG 6 (by decide) rfl
        clear hG
        simp only [putAll, g0, g1, g2, g6]
        clear g0 g1 g2 g6
        go_simp
        have q9 := htw.belowB (w0 := W0) qW (fun k hk => by have := hrr k hk; omega) (Nat.le_refl _)
        replace hO9 := hO9.unbut
        rw [← hsn.out] at hO9 hB9
        clear hBW hXW hO hx hsn htw hn9
        go_wp2_with fail
        go_roundw
        case rel => exact ⟨k + 1, ad9, c9, by go_num, by omega, hO9, hB9, q9⟩
        case measure => simp [intOf]; omega
    · obtain rfl : k = H.length := by omega
      rw [List.take_length] at hO hB
      obtain ⟨aH, eaH⟩ : ∃ aH, aH = ad := ⟨_, rfl⟩
      obtain ⟨cH, ecH⟩ : ∃ cH, cH = ko := ⟨_, rfl⟩
      obtain ⟨w2, ew2⟩ : ∃ w2, w2 = wr := ⟨_, rfl⟩
      rw [← eaH, ← ecH, ← ew2] at hO hB
      rw [← ew2] at qr q zr ⊢
      clear eaH ecH ew2
      have hOH := hO
      have bn1 := bn.below qr bn.lt
      have bz1 := bz.below qr bz.lt
      have zB := hB.lt
      clear hO bn bz
      have b1 := bn1.cell (i := 1) rfl
      go_upto_region 8 with (fail)
      clear b1
      go_loopw [26] (fun iv wr => ∃ (k : Nat) (ad : Option Addr) (ko : Nat), iv = .int .i64 k ∧ k ≤ Q.length ∧ OwnL Elt.lk 29 (w2.heap.size) (w2.heap.size) wr (.slice ad (Q.take k).length ko) (Q.take k) ∧ BoxN wr W0.heap.size 24 [.slice aH H.length cH, .slice ad (Q.take k).length ko] ∧ w2.grownBy wr (some W0.heap.size))
        (fun i _ => Q.length - (intOf i).toNat)
      case atStart => exact ⟨0, none, 0, rfl, Nat.zero_le _, OwnL.nil _ _ _ _ _, hB, grownB (Below.refl _ _) _⟩
      case round =>
        clear hB
        obtain ⟨k, ad, ko, rfl, hkl, hO, hB, qr2⟩ := hrel
        have hbs : Below w.heap.size w wr := q.grown qr2 q.size fun k e => by injection e with e; have := q0.size; omega
        have qq := q
        replace q := hbs
        replace qr := qr2
        have zr2 := qr.size
        clear hbs qr2
        rcases Nat.lt_or_ge k Q.length with hlt | hge
        · obtain ⟨b, off, KA, KC, VA, VC, rfl, hb, c0, c1, c2, c3, c4, c5, c6, hk1, hk2, hw64⟩ := (hQ.below q).lk k hlt
          obtain ⟨hx1, hx2⟩ := hsQ _ (List.getElem_mem hlt)
          have hsn := Lib.hid (show Q.take (k + 1) = Q.take k ++ [Q[k]] from List.take_succ_eq_append_getElem hlt)
          obtain ⟨x, ex⟩ : ∃ x, x = Q[k] := ⟨_, rfl⟩
          obtain ⟨xs, exs⟩ : ∃ xs, xs = Q.take k := ⟨_, rfl⟩
          have hxl : xs.length ≤ 1000000 := by rw [exs, List.length_take]; omega
          rw [← ex] at c0 c1 c2 c3 c4 c5 c6 hk1 hk2 hw64 hx1 hx2 hsn
          rw [← exs] at hO hB hsn
          clear ex exs
          have hx : RdLk S wr (.agg #[.int .i64 x.owner, .bool x.whole, .int .i64 x.span.table, .slice KA x.span.lo.length KC, .slice VA x.span.hi.length VC, .bool x.span.isOpen, .int .i64 x.mode]) x := ⟨KA, KC, VA, VC, rfl, hk1, hk2, hw64⟩
          go_upto_region 10 with (first | (refine wpList_boxNew (vs := [.int .i64 0, .bool false, .int .i64 0, .slice none 0 0, .slice none 0 0, .bool false, .int .i64 0]) (by kernel_rfl) rfl rfl ?_; intro wa hba hBa) | (refine wpList_boxStore (us := [.int .i64 x.owner, .bool x.whole, .int .i64 x.span.table, .slice KA x.span.lo.length KC, .slice VA x.span.hi.length VC, .bool x.span.isOpen, .int .i64 x.mode]) (by kernel_rfl) rfl rfl rfl rfl rfl rfl hBa rfl ?_; intro W hgw hXW) | fail)
          go_simp
          have hbw : Below wr.heap.size wr W := hba.grown hgw hba.size fun k hk => by injection hk with hk; omega
          have qW : w2.grownBy W (some W0.heap.size) := grownT qr (grownB hbw _)
          have zqW := qW.size
          have hsW := hXW.lt
          have hBlt := hB.lt
          have hBW := hB.below hbw hB.lt
          have hrr : ∀ k, Value.ownBlock (.slice ad xs.length ko) = some k → (w2.heap.size) ≤ k ∧ k < wr.heap.size := fun k hk => hO.block_lt k hk
          have hrW : ∀ k, Value.ownBlock (.slice ad xs.length ko) = some k → k < W.heap.size := fun k hk => by have := hrr k hk; omega
          replace hO := (hO.below hbw).but (b := W0.heap.size) (fun k hk _ => by omega)
          replace hx := hx.below hbw
          have hlo : (w2.heap.size) ≤ W.heap.size := by omega
          have hxr : some wr.heap.size ≠ Value.ownBlock (.slice ad xs.length ko) := fun e => by have := hrr _ e.symm; omega
          have hxb : wr.heap.size ≠ W0.heap.size := by omega
          have hbr : Value.ownBlock (.slice ad xs.length ko) ≠ some W0.heap.size := fun e => by have := hrr _ e; omega
          have hb1 : W0.heap.size < (w2.heap.size) := by omega
          clear c0 c1 c2 c3 c4 c5 c6 hk1 hk2 hba hBa hgw hbw hB q
          refine wp_region_lnl (K := fun A B => Twb A B (Value.ownBlock (.slice ad xs.length ko)) (W0.heap.size)) (by kernel_rfl) (by kernel_rfl) [3, 5, 7] (by kernel_rfl) [lEq (.pointer (some ⟨W0.heap.size, 0 + 1, none⟩)), lEq (.slice ad xs.length ko), lEq (.agg #[.int .i64 x.owner, .bool x.whole, .int .i64 x.span.table, .slice KA x.span.lo.length KC, .slice VA x.span.hi.length VC, .bool x.span.isOpen, .int .i64 x.mode]), lAny, pRow Elt.lk 29 (W) (Value.ownBlock (.slice ad xs.length ko)) (W0.heap.size) x hrW hBW.lt, lAny, lEq (.pointer (some ⟨W0.heap.size, 0 + 1, none⟩)), lAny] (PshJ Elt.lk 29 ((w2.heap.size)) ((w2.heap.size)) (Value.ownBlock (.slice ad xs.length ko)) (W0.heap.size) 24 [.slice aH H.length cH, .slice ad xs.length ko] 1 (W) (xs) x) PshJ.below (show Below (W).heap.size (W) (W) from Below.refl _ _)
            ⟨?o0, ?o1, ?o2, ?o3, ?o4, ?o5, ?o6, ?o7, trivial⟩ ?fin
          case o0 =>
            refine LnOp.side rfl (by kernel_rfl) (fun A va w' k hF hT hk hJ hb hu hp hd => ?_)
            have e1 : A.eval (.tmp 3) = .pointer (some ⟨W0.heap.size, 0, none⟩) := hF 3 rfl
            exact wp_fieldN lsS rfl (e1) (by omega) ⟨_, rfl, rfl, Below.refl _ _⟩
          case o1 =>
            refine LnOp.side rfl (by kernel_rfl) (fun A va w' k hF hT hk hJ hb hu hp hd => ?_)
            have e1 : A.eval (.tmp 30) = .pointer (some ⟨W0.heap.size, 0 + 1, none⟩) := (hT 30 0 (by simp) rfl).trans (hd ⟨0, .data⟩ (by simp) rfl rfl)
            have hk1 : k ≤ 1 := hb 1 5 rfl (by kernel_rfl)
            have hJ0 := PshJ.early hJ (by simp only [List.length_map, List.length_take]; omega)
            exact wp_ld_slice (e := 29) rfl e1 (by kernel_rfl) ((hBW.below hJ0 hBW.lt).cell (i := 1) rfl) ⟨_, rfl, rfl, Below.refl _ _⟩
          case o2 =>
            refine LnOp.side rfl (by kernel_rfl) (fun A va w' k hF hT hk hJ hb hu hp hd => ?_)
            have e1 : A.eval (.tmp 7) = .pointer (some ⟨wr.heap.size, 0, none⟩) := hF 7 rfl
            have hX2 := (PshJ.two hJ).boxN hXW hxr hxb
            exact wp_loadU (us := [.int .i64 x.owner, .bool x.whole, .int .i64 x.span.table, .slice KA x.span.lo.length KC, .slice VA x.span.hi.length VC, .bool x.span.isOpen, .int .i64 x.mode]) lkS rfl e1 (fun j u hj => by rw [Nat.zero_add]; exact hX2.cell hj) ⟨_, rfl, rfl, Below.refl _ _⟩
          case o3 =>
            refine LnOp.line 0 rfl rfl (fun A va w' hF hT hJ hu hd => ?_)
            have e1 : A.eval (.tmp 32) = .agg #[.int .i64 x.owner, .bool x.whole, .int .i64 x.span.table, .slice KA x.span.lo.length KC, .slice VA x.span.hi.length VC, .bool x.span.isOpen, .int .i64 x.mode] := (hT 32 2 (by simp) rfl).trans (hd ⟨2, .data⟩ (by simp) rfl rfl)
            have hJ0 : Below (W).heap.size (W) w' := hJ
            refine wp_callFn rfl eA (by simp only [List.map_toArray, List.map_cons, List.map_nil, e1]) ((lAlone_any w' (hx.below hJ0) hx1 hx2).mono ?_)
            rintro e w2 ⟨v2, rfl, ⟨ka, kc, va2, vc, rfl, hk2, hv2, ht2⟩, hb2⟩
            have hR : Elt.lk.R (fun k => W.heap.size ≤ k ∧ k < w2.heap.size) w2 x (lkC x (.slice ka x.span.lo.length kc) (.slice va2 x.span.hi.length vc)) := ⟨_, _, rfl, hk2.weak fun k hk => ⟨Nat.le_trans hJ0.size hk.1, hk.2⟩, hv2.weak fun k hk => ⟨Nat.le_trans hJ0.size hk.1, hk.2⟩, ht2⟩
            exact ⟨_, rfl, _, rfl, ⟨hJ0.trans (hb2.mono hJ0.size), _, rfl, hR⟩, (Twb.refl (r := Value.ownBlock (.slice ad xs.length ko)) (b := W0.heap.size)).below hb2⟩
          case o4 =>
            refine LnOp.side rfl (by kernel_rfl) (fun A va w' k hF hT hk hJ hb hu hp hd => ?_)
            have x1 : A.eval (.tmp 33) = va 3 := hT 33 3 (by simp) rfl
            obtain rfl : k = 1 := by
              have h1 := hp ⟨3, .data⟩ (by simp) rfl 0 rfl
              have h2 := hb 1 5 rfl (by kernel_rfl)
              omega
            obtain ⟨hJ0, us, eus, hR⟩ := hJ
            have hb1 : Below w'.heap.size w' (w'.alloc (.cells us.toArray 29)) := (Below.refl _ _).alloc (Nat.le_refl _) _
            exact wp_buildOne lkP rfl x1 eus (Elt.len _ hR) (by decide) (by decide) ⟨_, rfl, ⟨_, us, rfl, hJ0.size, by simp only [World.alloc, Array.getElem?_push_size], Elt.weak _ (Elt.below hR hb1) fun k hk => ⟨hk.1, Nat.lt_of_lt_of_le hk.2 hb1.size⟩⟩, hb1⟩
          case o5 =>
            refine LnOp.line 1 rfl rfl (fun A va w' hF hT hJ hu hd => ?_)
            have e1 : A.eval (.tmp 31) = .slice ad xs.length ko := (hT 31 1 (by simp) rfl).trans (hd ⟨1, .data⟩ (by simp) rfl rfl)
            have x2 : A.eval (.tmp 34) = va 4 := hT 34 4 (by simp) rfl
            have y2 := hd ⟨4, .data⟩ (by simp) rfl rfl
            have hJ' := hJ
            obtain ⟨hJ0, _⟩ := hJ
            obtain ⟨g, us, eg, hg0, hgc, hgR⟩ : ∃ g, ∃ us : List Value, va 4 = .slice (some ⟨g, 0, none⟩) 1 1 ∧ (W).heap.size ≤ g ∧ w'.heap[g]? = some (.cells us.toArray 29 (0, 0)) ∧ Elt.R Elt.lk (fun k => (W).heap.size ≤ k ∧ k < w'.heap.size) w' x us := y2
            refine wp_appendL (E := Elt.but Elt.lk (W0.heap.size)) (ys := [x]) lkP rfl e1 (hO.below hJ0) (x2.trans eg) (fun j u hj => by rw [Addr.add_lit, World.cell?, hgc]; simpa using hj) (Flat.single (Elt.weak Elt.lk hgR fun k hk => ⟨hk, fun e => by have := hk.1; have := hBW.lt; omega⟩)) (fun k hk => ⟨Nat.le_trans hlo hk.1, hk.2, fun e => by have := hrW k e.symm; omega⟩) (Nat.le_trans hlo hJ0.size) (fun ad7 k7 cap7 w2 h2 hg h3 => ?_) (by simp; omega)
            obtain rfl : k7 = (xs ++ [x]).length := h2.len
            exact ⟨_, rfl, PshJ.app hJ' hBW h2 hg hbr h3, (Twb.refl (b := W0.heap.size)).row hg⟩
          case o6 =>
            refine LnOp.side rfl (by kernel_rfl) (fun A va w' k hF hT hk hJ hb hu hp hd => ?_)
            have e1 : A.eval (.tmp 3) = .pointer (some ⟨W0.heap.size, 0, none⟩) := hF 3 rfl
            exact wp_fieldN lsS rfl (e1) (by omega) ⟨_, rfl, rfl, Below.refl _ _⟩
          case o7 =>
            refine LnOp.line 2 rfl rfl (fun A va w' hF hT hJ hu hd => ?_)
            have e1 : A.eval (.tmp 36) = .pointer (some ⟨W0.heap.size, 0 + 1, none⟩) := (hT 36 6 (by simp) rfl).trans (hd ⟨6, .data⟩ (by simp) rfl rfl)
            have x2 : A.eval (.tmp 35) = va 5 := hT 35 5 (by simp) rfl
            have hJ' := hJ
            obtain ⟨hJ0, ad7, c7, es, hOs, hBs, hn7⟩ := hJ
            refine wp_boxSet (j := 1) rfl (by kernel_rfl) e1 (x2.trans es) rfl rfl hBs (by simp) (fun w2 hg hB2 => ?_)
            exact ⟨_, rfl, PshJ.sto hJ' hOs hn7 hg hB2, (Twb.refl (r := Value.ownBlock (.slice ad xs.length ko))).box hg⟩
          case fin =>
            intro vs1 W9 hJ hG
            obtain ⟨htw, ad9, c9, hO9, hB9, hn9⟩ := hJ
            have g0 : vs1 0 = .pointer (some ⟨W0.heap.size, 0 + 1, none⟩) := hG 0 (by decide) rfl
            have g1 : vs1 1 = .slice ad xs.length ko := hG 1 (by decide) rfl
            have g2 : vs1 2 = .agg #[.int .i64 x.owner, .bool x.whole, .int .i64 x.span.table, .slice KA x.span.lo.length KC, .slice VA x.span.hi.length VC, .bool x.span.isOpen, .int .i64 x.mode] := hG 2 (by decide) rfl
            have g6 : vs1 6 = .pointer (some ⟨W0.heap.size, 0 + 1, none⟩) := hG 6 (by decide) rfl
            clear hG
            simp only [putAll, g0, g1, g2, g6]
            clear g0 g1 g2 g6
            go_simp
            have q9 : w2.grownBy W9 (some W0.heap.size) := ⟨htw.os.trans qW.os, htw.tape.trans qW.tape, htw.output.trans qW.output, Nat.le_trans qW.size htw.size, fun k hk hn => (htw.block k (by omega) (fun e => by have := hrr k e.symm; omega) (fun e => hn (by rw [e]))).trans (qW.block k hk hn)⟩
            replace hO9 := hO9.unbut
            rw [← hsn.out] at hO9 hB9
            clear hBW hXW hO hx hsn htw hn9
            go_wp2_with fail
            go_roundw
            case rel => exact ⟨k + 1, ad9, c9, by go_num, by omega, hO9, hB9, q9⟩
            case measure => simp [intOf]; omega
        · obtain rfl : k = Q.length := by omega
          rw [List.take_length] at hO hB
          have b0 := hB.cell (i := 0) rfl
          have b1 := hB.cell (i := 1) rfl
          have bz2 := bz1.other qr (fun e => by injection e with e; have := bz1.lt; omega)
          go_wp2_with (first | (refine wpList_boxStore (us := [.slice aH H.length cH, .slice ad Q.length ko]) (by kernel_rfl) rfl rfl rfl rfl rfl rfl bz2 rfl ?_; intro wd hgd hBd) | fail)
          have d0 := hBd.cell (i := 0) rfl
          have d1 := hBd.cell (i := 1) rfl
          obtain ⟨fs, hu, _⟩ := lsS.hu
          refine bodyPost_ret (v := .agg #[.slice aH H.length cH, .slice ad Q.length ko]) (by simp [results, Tryd.results39, go_sem, loadVar, isAgg, run_underlying hu, run_sizeOf' lsS.hs, loadCellsFrom, Addr.add, d0, d1]) rfl ?_
          have zd := hgd.size
          have z0 := q0.size
          have hH9 := (hOH.other qr (by omega) (by omega)).other hgd (by omega) (by omega)
          have hQ9 := hO.other hgd (by omega) (by omega)
          have hHl := fun k hk => hOH.block_lt k hk
          have hQl := fun k hk => hQ9.block_lt k hk
          have hQe := hQ9.ownF
          have hHe : OwnF Elt.lk 29 (fun k => W0.heap.size + 1 ≤ k ∧ k < w2.heap.size ∧ some k ≠ Value.ownBlock (.slice aH H.length cH)) wd (.slice aH H.length cH) H := by
            refine hOH.ownF.kept (fun k hk => ?_) fun k hk => ?_
            · have h9 := hHl k hk
              exact (hgd.block k (by omega) fun e => by injection e with e; omega).trans (qr.block k h9.2 fun e => by injection e with e; omega)
            · exact (hgd.block k (by omega) fun e => by injection e with e; omega).trans (qr.block k hk.2.1 fun e => by injection e with e; omega)
          refine ⟨_, _, _, _, rfl, ⟨fun k => w.heap.size ≤ k ∧ k < wd.heap.size ∧ Value.ownBlock (.slice aH H.length cH) ≠ some k ∧ Value.ownBlock (.slice ad Q.length ko) ≠ some k, hHe.weak fun k hk => ⟨by omega, by omega, fun e => hk.2.2 e.symm, fun e => by have := hQl k e; omega⟩, hQe.weak fun k hk => ⟨by omega, hk.2.1, fun e => by have := hHl k e; omega, fun e => hk.2.2 e.symm⟩, fun k hk => hk, fun k hk => ⟨by have := hHl k hk; omega, fun e => by have := hHl k hk; have := hQl k e; omega⟩, fun k hk => by have := hQl k hk; omega⟩, q.grown hgd q.size fun k e => by injection e with e; omega⟩
end Go.Proofs.YtccoklhmbikfmaaDoor
namespace Go.Proofs.YtccoklhmbikfmaaDoor
open Go.RowKit
theorem wrap_i64m {x : Int} (h0 : -9223372036854775808 ≤ x) (h1 : x ≤ 9223372036854775807) : IntKind.i64.wrap x = x := by
  rw [IntKind.wrap_i64]; omega
set_option maxRecDepth 100000 in
theorem known_any (w : World) (a : Int) : Calls Tryd.prog 58 #[.int .i64 a] w fun e w' => e = .returned (.bool (kn a)) ∧ w' = w := by
  by_cases h : 1 ≤ a
  · have h1 : decide (1 ≤ a) = true := by simpa using h
    go_enter Tryd.func58, Tryd.ntmps58
    go_wp2_with fail
    go_ret
    exact ⟨by simp [kn, h], rfl⟩
  · have h1 : decide (1 ≤ a) = false := by simpa using h
    go_enter Tryd.func58, Tryd.ntmps58
    go_wp2_with fail
    go_ret
    exact ⟨by simp [kn]; omega, rfl⟩
set_option maxRecDepth 100000 in
theorem covers_any (w : World) (a b : Int) : Calls Tryd.prog 65 #[.int .i64 a, .int .i64 b] w fun e w' => e = .returned (.bool (covM a b)) ∧ w' = w := by
  by_cases ha : kn a = true
  case neg =>
    have ha' : kn a = false := by simpa using ha
    rw [cov_none _ ha']
    go_enter Tryd.func65, Tryd.ntmps65
    go_wp2_with fail
    refine (known_any w a).mono ?_
    rintro e w1 ⟨rfl, rfl⟩
    rw [ha']
    go_wp2_with fail
    go_ret
    exact ⟨rfl, rfl⟩
  case pos =>
  by_cases hb : kn b = true
  case neg =>
    have hb' : kn b = false := by simpa using hb
    rw [cov_none2 _ hb']
    go_enter Tryd.func65, Tryd.ntmps65
    go_wp2_with fail
    refine (known_any w a).mono ?_
    rintro e w1 ⟨rfl, rfl⟩
    rw [ha]
    go_wp2_with fail
    refine (known_any w1 b).mono ?_
    rintro e w2 ⟨rfl, rfl⟩
    rw [hb']
    go_wp2_with fail
    go_ret
    exact ⟨rfl, rfl⟩
  case pos =>
  rcases md_cases a with rfl | rfl | rfl | rfl | rfl | h <;> rcases md_cases b with rfl | rfl | rfl | rfl | rfl | h
  all_goals first
    | (exfalso; rw [h] at ha; cases ha)
    | (exfalso; rw [h] at hb; cases hb)
    | skip
  all_goals
    clear ha hb
    go_enter Tryd.func65, Tryd.ntmps65
    go_wp2_with fail
    refine (known_any w _).mono ?_
    rintro e w1 ⟨rfl, rfl⟩
    go_wp2_with fail
    refine (known_any w1 _).mono ?_
    rintro e w2 ⟨rfl, rfl⟩
    go_wp2_with fail
    go_ret
    exact ⟨rfl, rfl⟩
def TabAt (w : World) : Prop := ∀ a b : Int, kn a = true → kn b = true → w.cell? ⟨0, ((a - 1) * 5 + (b - 1)).toNat, none⟩ = some (.bool (fitM a b))
set_option maxRecDepth 100000 in
theorem fits_any (w : World) (hT : TabAt w) (a b : Int) : Calls Tryd.prog 35 #[.int .i64 a, .int .i64 b] w fun e w' => e = .returned (.bool (fitM a b)) ∧ w' = w := by
  by_cases ha : kn a = true
  case neg =>
    have ha' : kn a = false := by simpa using ha
    rw [fit_none _ ha']
    go_enter Tryd.func35, Tryd.ntmps35
    go_wp2_with fail
    refine (known_any w a).mono ?_
    rintro e w1 ⟨rfl, rfl⟩
    rw [ha']
    go_wp2_with fail
    go_ret
    exact ⟨rfl, rfl⟩
  case pos =>
  by_cases hb : kn b = true
  case neg =>
    have hb' : kn b = false := by simpa using hb
    rw [fit_none2 _ hb']
    go_enter Tryd.func35, Tryd.ntmps35
    go_wp2_with fail
    refine (known_any w a).mono ?_
    rintro e w1 ⟨rfl, rfl⟩
    rw [ha]
    go_wp2_with fail
    refine (known_any w1 b).mono ?_
    rintro e w2 ⟨rfl, rfl⟩
    rw [hb']
    go_wp2_with fail
    go_ret
    exact ⟨rfl, rfl⟩
  case pos =>
  have hc := hT a b ha hb
  clear hT
  rcases md_cases a with rfl | rfl | rfl | rfl | rfl | h <;> rcases md_cases b with rfl | rfl | rfl | rfl | rfl | h
  all_goals first
    | (exfalso; rw [h] at ha; cases ha)
    | (exfalso; rw [h] at hb; cases hb)
    | skip
  all_goals
    clear ha hb
    go_enter Tryd.func35, Tryd.ntmps35
    go_wp2_with fail
    refine (known_any w _).mono ?_
    rintro e w1 ⟨rfl, rfl⟩
    go_wp2_with fail
    refine (known_any w1 _).mono ?_
    rintro e w2 ⟨rfl, rfl⟩
    simp only [Int.reduceSub, Int.reduceMul, Int.reduceAdd, Int.reduceToNat] at hc
    go_wp2_with fail
    go_ret
    exact ⟨rfl, rfl⟩
end Go.Proofs.YtccoklhmbikfmaaDoor
namespace Go.Proofs.YtccoklhmbikfmaaDoor
open Go.RowKit
set_option maxRecDepth 100000 in
theorem join_any (w : World) (a b : Int) : Calls Tryd.prog 46 #[.int .i64 a, .int .i64 b] w fun e w' => e = .returned (.int .i64 (joinM a b)) ∧ w' = w := by
  go_enter Tryd.func46, Tryd.ntmps46
  go_upto_region 2 with (fail)
  go_loopw [7] (fun iv wr => ∃ i : Nat, iv = .int .i64 i ∧ i ≤ 5 ∧ RowKit.Hid (∀ j : Nat, j < i → (covM ((j : Int) + 1) a && covM ((j : Int) + 1) b) = false) ∧ wr = w) (fun i _ => 5 - (intOf i).toNat)
  case atStart => exact ⟨0, rfl, by omega, Lib.hid (fun j h => absurd h (by omega)), rfl⟩
  case round =>
    obtain ⟨i, rfl, hil, hno, rfl⟩ := hrel
    rcases Nat.lt_or_ge i 5 with hlt | hge
    · have d1 : decide ((i : Int) < 5) = true := by simp; omega
      have d0 : ((i : Int) < 5) = True := by simp; omega
      have w0 : IntKind.i64.wrap (1 + (i : Int)) = (i : Int) + 1 := by rw [wrap_i64m (by omega) (by omega)]; omega
      cases ha : covM ((i : Int) + 1) a
      · have H := Lib.hid (show ∀ j : Nat, j < i + 1 → (covM ((j : Int) + 1) a && covM ((j : Int) + 1) b) = false from fun j hj => by
          rcases Nat.lt_or_ge j i with h | h
          · exact hno.out j h
          · obtain rfl : j = i := by omega
            simp [ha])
        go_wp2_with fail
        refine (covers_any wr _ a).mono ?_
        rintro e w1 ⟨rfl, rfl⟩
        rw [ha]
        clear ha
        go_wp2_with fail
        go_roundw
        case rel => exact ⟨i + 1, by go_num, by omega, H, trivial⟩
        case measure => simp [intOf]; omega
      · cases hb : covM ((i : Int) + 1) b
        · have H := Lib.hid (show ∀ j : Nat, j < i + 1 → (covM ((j : Int) + 1) a && covM ((j : Int) + 1) b) = false from fun j hj => by
            rcases Nat.lt_or_ge j i with h | h
            · exact hno.out j h
            · obtain rfl : j = i := by omega
              simp [hb])
          go_wp2_with fail
          refine (covers_any wr _ a).mono ?_
          rintro e w1 ⟨rfl, rfl⟩
          rw [ha]
          go_wp2_with fail
          refine (covers_any w1 _ b).mono ?_
          rintro e w2 ⟨rfl, rfl⟩
          rw [hb]
          clear ha hb
          go_wp2_with fail
          go_roundw
          case rel => exact ⟨i + 1, by go_num, by omega, H, trivial⟩
          case measure => simp [intOf]; omega
        · have H := Lib.hid (show joinM a b = (i : Int) + 1 from join_at i hlt hno.out ha hb)
          go_wp2_with fail
          refine (covers_any wr _ a).mono ?_
          rintro e w1 ⟨rfl, rfl⟩
          rw [ha]
          go_wp2_with fail
          refine (covers_any w1 _ b).mono ?_
          rintro e w2 ⟨rfl, rfl⟩
          rw [hb]
          clear ha hb
          go_wp2_with fail
          go_ret
          exact ⟨by rw [H.out]; rfl, rfl⟩
    · obtain h5 : i = 5 := by omega
      have H := Lib.hid (show joinM a b = 0 from join_no (h5 ▸ hno.out))
      have d1 : decide ((i : Int) < 5) = false := by simp; omega
      have d0 : ((i : Int) < 5) = False := by simp; omega
      clear h5 hge
      go_wp2_with fail
      go_ret
      exact ⟨by rw [H.out]; rfl, rfl⟩
end Go.Proofs.YtccoklhmbikfmaaDoor
namespace Go.Proofs.YtccoklhmbikfmaaDoor
open Go.RowKit Go.Shelf
theorem TabAt.below {w w' : World} (h : TabAt w) (hb : Below w.heap.size w w') : TabAt w' := fun a b ha hb2 => by
  have hc := h a b ha hb2
  rw [cell_keep (hb.block _ (cell_lt hc))]
  exact hc
set_option maxRecDepth 100000 in
set_option maxHeartbeats 4000000 in
theorem owns_any (w : World) {S S2 : Nat → Prop} {u v : Value} {x y : Lk} (hx : RdLk S w u x) (hy : RdLk S2 w v y) :
    Calls Tryd.prog 33 #[u, v] w fun e w' => e = .returned (.bool (ownsL x y)) ∧ Below w.heap.size w w' := by
  obtain ⟨a1, a2, a3, a4, rfl, hlx, hhx, hwx⟩ := hx
  have m1x : x.span.lo.length ≤ 9223372036854775807 := by have := hlx.len; unfold maxLen at this; omega
  have m2x : x.span.hi.length ≤ 9223372036854775807 := by have := hhx.len; unfold maxLen at this; omega
  obtain ⟨b1, b2, b3, b4, rfl, hly, hhy, hwy⟩ := hy
  have m1y : y.span.lo.length ≤ 9223372036854775807 := by have := hly.len; unfold maxLen at this; omega
  have m2y : y.span.hi.length ≤ 9223372036854775807 := by have := hhy.len; unfold maxLen at this; omega
  obtain ⟨W, hW, q, Bx, By, hsz⟩ := spBoxes2 w 52 29 [.int .i64 x.owner, .bool x.whole, .int .i64 x.span.table, .slice a1 x.span.lo.length a2, .slice a3 x.span.hi.length a4, .bool x.span.isOpen, .int .i64 x.mode] [.int .i64 y.owner, .bool y.whole, .int .i64 y.span.table, .slice b1 y.span.lo.length b2, .slice b3 y.span.hi.length b4, .bool y.span.isOpen, .int .i64 y.mode]
  clear hsz
  go_enter Tryd.func33, Tryd.ntmps33
  go_upto_region 1 with (fail)
  rw [show (w.alloc (.cells #[.int .i64 x.owner, .bool x.whole, .int .i64 x.span.table, .slice a1 x.span.lo.length a2, .slice a3 x.span.hi.length a4, .bool x.span.isOpen, .int .i64 x.mode] 52)).alloc (.cells #[.int .i64 y.owner, .bool y.whole, .int .i64 y.span.table, .slice b1 y.span.lo.length b2, .slice b3 y.span.hi.length b4, .bool y.span.isOpen, .int .i64 y.mode] 29) = W from hW.symm]
  clear hW
  have rxx := hlx.below q
  have ryx := hhx.below q
  clear hlx hhx
  have rxy := hly.below q
  have ryy := hhy.below q
  clear hly hhy
  have cx0 := Bx.cell (i := 0) rfl
  have cx1 := Bx.cell (i := 1) rfl
  have cx2 := Bx.cell (i := 2) rfl
  have cx3 := Bx.cell (i := 3) rfl
  have cx4 := Bx.cell (i := 4) rfl
  have cx5 := Bx.cell (i := 5) rfl
  have cx6 := Bx.cell (i := 6) rfl
  have cy0 := By.cell (i := 0) rfl
  have cy1 := By.cell (i := 1) rfl
  have cy2 := By.cell (i := 2) rfl
  have cy3 := By.cell (i := 3) rfl
  have cy4 := By.cell (i := 4) rfl
  have cy5 := By.cell (i := 5) rfl
  have cy6 := By.cell (i := 6) rfl
  by_cases h_ow : y.owner = x.owner
  · have daow : (y.owner == x.owner) = true := beq_iff_eq.2 h_ow
    have dbow : decide (y.owner = x.owner) = true := decide_eq_true h_ow
    have dcow : (y.owner = x.owner) = True := eq_true h_ow
    have ddow : (y.owner != x.owner) = false := by rw [bne_eq_false_iff_eq]; exact h_ow
    replace h_ow := Lib.hid h_ow
    replace h_ow := h_ow.out
    have H := Lib.hid (show (ownsL x y) = true from by unfold ownsL; simp [h_ow])
    clear h_ow
    go_wp2_with fail
    go_ret
    exact ⟨by first | (rw [H.out]; done) | (rw [H.out]; rfl), q⟩
  · have daow : (y.owner == x.owner) = false := beq_eq_false_iff_ne.2 h_ow
    have dbow : decide (y.owner = x.owner) = false := decide_eq_false h_ow
    have dcow : (y.owner = x.owner) = False := eq_false h_ow
    have ddow : (y.owner != x.owner) = true := bne_iff_ne.2 h_ow
    replace h_ow := Lib.hid h_ow
    replace h_ow := h_ow.out
    have H := Lib.hid (show (ownsL x y) = false from by unfold ownsL; simp [h_ow])
    clear h_ow
    go_wp2_with fail
    go_ret
    exact ⟨by first | (rw [H.out]; done) | (rw [H.out]; rfl), q⟩
set_option maxRecDepth 100000 in
set_option maxHeartbeats 4000000 in
theorem clash_any (w : World) (hT : TabAt w) {S S2 : Nat → Prop} {u v : Value} {x y : Lk} (hx : RdLk S w u x) (hy : RdLk S2 w v y) :
    Calls Tryd.prog 14 #[u, v] w fun e w' => e = .returned (.bool (clashL x y)) ∧ Below w.heap.size w w' := by
  obtain ⟨a1, a2, a3, a4, rfl, hlx, hhx, hwx⟩ := hx
  have m1x : x.span.lo.length ≤ 9223372036854775807 := by have := hlx.len; unfold maxLen at this; omega
  have m2x : x.span.hi.length ≤ 9223372036854775807 := by have := hhx.len; unfold maxLen at this; omega
  obtain ⟨b1, b2, b3, b4, rfl, hly, hhy, hwy⟩ := hy
  have m1y : y.span.lo.length ≤ 9223372036854775807 := by have := hly.len; unfold maxLen at this; omega
  have m2y : y.span.hi.length ≤ 9223372036854775807 := by have := hhy.len; unfold maxLen at this; omega
  obtain ⟨W, hW, q, Bx, By, hsz⟩ := spBoxes2 w 29 29 [.int .i64 x.owner, .bool x.whole, .int .i64 x.span.table, .slice a1 x.span.lo.length a2, .slice a3 x.span.hi.length a4, .bool x.span.isOpen, .int .i64 x.mode] [.int .i64 y.owner, .bool y.whole, .int .i64 y.span.table, .slice b1 y.span.lo.length b2, .slice b3 y.span.hi.length b4, .bool y.span.isOpen, .int .i64 y.mode]
  clear hsz
  go_enter Tryd.func14, Tryd.ntmps14
  go_upto_region 1 with (fail)
  rw [show (w.alloc (.cells #[.int .i64 x.owner, .bool x.whole, .int .i64 x.span.table, .slice a1 x.span.lo.length a2, .slice a3 x.span.hi.length a4, .bool x.span.isOpen, .int .i64 x.mode] 29)).alloc (.cells #[.int .i64 y.owner, .bool y.whole, .int .i64 y.span.table, .slice b1 y.span.lo.length b2, .slice b3 y.span.hi.length b4, .bool y.span.isOpen, .int .i64 y.mode] 29) = W from hW.symm]
  clear hW
  have rxx := hlx.below q
  have ryx := hhx.below q
  clear hlx hhx
  have rxy := hly.below q
  have ryy := hhy.below q
  clear hly hhy
  replace hT := hT.below q
  have cx0 := Bx.cell (i := 0) rfl
  have cx1 := Bx.cell (i := 1) rfl
  have cx2 := Bx.cell (i := 2) rfl
  have cx3 := Bx.cell (i := 3) rfl
  have cx4 := Bx.cell (i := 4) rfl
  have cx5 := Bx.cell (i := 5) rfl
  have cx6 := Bx.cell (i := 6) rfl
  have cy0 := By.cell (i := 0) rfl
  have cy1 := By.cell (i := 1) rfl
  have cy2 := By.cell (i := 2) rfl
  have cy3 := By.cell (i := 3) rfl
  have cy4 := By.cell (i := 4) rfl
  have cy5 := By.cell (i := 5) rfl
  have cy6 := By.cell (i := 6) rfl
  by_cases h_ow : x.owner = y.owner
  · have daow : (x.owner == y.owner) = true := beq_iff_eq.2 h_ow
    have dbow : decide (x.owner = y.owner) = true := decide_eq_true h_ow
    have dcow : (x.owner = y.owner) = True := eq_true h_ow
    have ddow : (x.owner != y.owner) = false := by rw [bne_eq_false_iff_eq]; exact h_ow
    replace h_ow := Lib.hid h_ow
    replace h_ow := h_ow.out
    have H := Lib.hid (show (clashL x y) = false from by unfold clashL; simp [h_ow])
    clear h_ow
    go_wp2_with fail
    go_ret
    exact ⟨by first | (rw [H.out]; done) | (rw [H.out]; rfl), q⟩
  · have daow : (x.owner == y.owner) = false := beq_eq_false_iff_ne.2 h_ow
    have dbow : decide (x.owner = y.owner) = false := decide_eq_false h_ow
    have dcow : (x.owner = y.owner) = False := eq_false h_ow
    have ddow : (x.owner != y.owner) = true := bne_iff_ne.2 h_ow
    replace h_ow := Lib.hid h_ow
    by_cases h_tb : x.span.table = y.span.table
    · have datb : (x.span.table == y.span.table) = true := beq_iff_eq.2 h_tb
      have dbtb : decide (x.span.table = y.span.table) = true := decide_eq_true h_tb
      have dctb : (x.span.table = y.span.table) = True := eq_true h_tb
      have ddtb : (x.span.table != y.span.table) = false := by rw [bne_eq_false_iff_eq]; exact h_tb
      replace h_tb := Lib.hid h_tb
      cases h_wx : x.whole with
      | true =>
        rw [h_wx] at cx1
        replace h_wx := Lib.hid h_wx
        cases h_wy : y.whole with
        | true =>
          rw [h_wy] at cy1
          replace h_wy := Lib.hid h_wy
          have hcl := fits_any _ hT x.mode y.mode
          go_wp2_with fail
          refine hcl.mono ?_
          rintro e _ ⟨rfl, rfl⟩
          clear hcl
          cases h_ft : fitM x.mode y.mode with
          | true =>
            replace h_ft := Lib.hid h_ft
            replace h_ow := h_ow.out
            replace h_tb := h_tb.out
            replace h_wx := h_wx.out
            replace h_wy := h_wy.out
            replace h_ft := h_ft.out
            have H := Lib.hid (show (clashL x y) = false from by unfold clashL; simp [h_ow, h_tb, h_wx, h_wy, h_ft])
            clear h_ow h_tb h_wx h_wy h_ft
            go_wp2_with fail
            go_ret
            exact ⟨by first | (rw [H.out]; done) | (rw [H.out]; rfl), q⟩
          | false =>
            replace h_ft := Lib.hid h_ft
            replace h_ow := h_ow.out
            replace h_tb := h_tb.out
            replace h_wx := h_wx.out
            replace h_wy := h_wy.out
            replace h_ft := h_ft.out
            have H := Lib.hid (show (clashL x y) = true from by unfold clashL; simp [h_ow, h_tb, h_wx, h_wy, h_ft])
            clear h_ow h_tb h_wx h_wy h_ft
            go_wp2_with fail
            go_ret
            exact ⟨by first | (rw [H.out]; done) | (rw [H.out]; rfl), q⟩
        | false =>
          rw [h_wy] at cy1
          replace h_wy := Lib.hid h_wy
          replace h_ow := h_ow.out
          replace h_tb := h_tb.out
          replace h_wx := h_wx.out
          replace h_wy := h_wy.out
          have H := Lib.hid (show (clashL x y) = false from by unfold clashL; simp [h_ow, h_tb, h_wx, h_wy])
          clear h_ow h_tb h_wx h_wy
          go_wp2_with fail
          go_ret
          exact ⟨by first | (rw [H.out]; done) | (rw [H.out]; rfl), q⟩
      | false =>
        rw [h_wx] at cx1
        replace h_wx := Lib.hid h_wx
        cases h_wy : y.whole with
        | true =>
          rw [h_wy] at cy1
          replace h_wy := Lib.hid h_wy
          replace h_ow := h_ow.out
          replace h_tb := h_tb.out
          replace h_wx := h_wx.out
          replace h_wy := h_wy.out
          have H := Lib.hid (show (clashL x y) = false from by unfold clashL; simp [h_ow, h_tb, h_wx, h_wy])
          clear h_ow h_tb h_wx h_wy
          go_wp2_with fail
          go_ret
          exact ⟨by first | (rw [H.out]; done) | (rw [H.out]; rfl), q⟩
        | false =>
          rw [h_wy] at cy1
          replace h_wy := Lib.hid h_wy
          have hcl := sMeets_any _ (RdLk.sp (show RdLk _ _ (.agg #[.int .i64 x.owner, .bool x.whole, .int .i64 x.span.table, .slice a1 x.span.lo.length a2, .slice a3 x.span.hi.length a4, .bool x.span.isOpen, .int .i64 x.mode]) x from ⟨_, _, _, _, rfl, rxx, ryx, hwx⟩)) (RdLk.sp (show RdLk _ _ (.agg #[.int .i64 y.owner, .bool y.whole, .int .i64 y.span.table, .slice b1 y.span.lo.length b2, .slice b3 y.span.hi.length b4, .bool y.span.isOpen, .int .i64 y.mode]) y from ⟨_, _, _, _, rfl, rxy, ryy, hwy⟩))
          go_wp2_with fail
          refine hcl.mono ?_
          rintro e w1 ⟨rfl, hb⟩
          clear hcl
          clear cx0 cx1 cx2 cx3 cx4 cx5 cx6 cy0 cy1 cy2 cy3 cy4 cy5 cy6
          replace Bx := Bx.below hb Bx.lt
          replace By := By.below hb By.lt
          replace rxx := rxx.below hb
          replace ryx := ryx.below hb
          replace rxy := rxy.below hb
          replace ryy := ryy.below hb
          replace hT := hT.below hb
          replace q := q.trans (hb.mono q.size)
          clear hb
          have cx0 := Bx.cell (i := 0) rfl
          have cx1 := Bx.cell (i := 1) rfl
          have cx2 := Bx.cell (i := 2) rfl
          have cx3 := Bx.cell (i := 3) rfl
          have cx4 := Bx.cell (i := 4) rfl
          have cx5 := Bx.cell (i := 5) rfl
          have cx6 := Bx.cell (i := 6) rfl
          have cy0 := By.cell (i := 0) rfl
          have cy1 := By.cell (i := 1) rfl
          have cy2 := By.cell (i := 2) rfl
          have cy3 := By.cell (i := 3) rfl
          have cy4 := By.cell (i := 4) rfl
          have cy5 := By.cell (i := 5) rfl
          have cy6 := By.cell (i := 6) rfl
          cases h_mt : meetsS x.span y.span with
          | true =>
            replace h_mt := Lib.hid h_mt
            by_cases h_m5 : x.mode = 5
            · have dam5 : (x.mode == 5) = true := beq_iff_eq.2 h_m5
              have dbm5 : decide (x.mode = 5) = true := decide_eq_true h_m5
              have dcm5 : (x.mode = 5) = True := eq_true h_m5
              have ddm5 : (x.mode != 5) = false := by rw [bne_eq_false_iff_eq]; exact h_m5
              replace h_m5 := Lib.hid h_m5
              replace h_ow := h_ow.out
              replace h_tb := h_tb.out
              replace h_wx := h_wx.out
              replace h_wy := h_wy.out
              replace h_mt := h_mt.out
              replace h_m5 := h_m5.out
              have H := Lib.hid (show (clashL x y) = true from by unfold clashL; simp [h_ow, h_tb, h_wx, h_wy, h_mt, h_m5])
              clear h_ow h_tb h_wx h_wy h_mt h_m5
              go_wp2_with fail
              go_ret
              exact ⟨by first | (rw [H.out]; done) | (rw [H.out]; rfl), q⟩
            · have dam5 : (x.mode == 5) = false := beq_eq_false_iff_ne.2 h_m5
              have dbm5 : decide (x.mode = 5) = false := decide_eq_false h_m5
              have dcm5 : (x.mode = 5) = False := eq_false h_m5
              have ddm5 : (x.mode != 5) = true := bne_iff_ne.2 h_m5
              replace h_m5 := Lib.hid h_m5
              by_cases h_n5 : y.mode = 5
              · have dan5 : (y.mode == 5) = true := beq_iff_eq.2 h_n5
                have dbn5 : decide (y.mode = 5) = true := decide_eq_true h_n5
                have dcn5 : (y.mode = 5) = True := eq_true h_n5
                have ddn5 : (y.mode != 5) = false := by rw [bne_eq_false_iff_eq]; exact h_n5
                replace h_n5 := Lib.hid h_n5
                replace h_ow := h_ow.out
                replace h_tb := h_tb.out
                replace h_wx := h_wx.out
                replace h_wy := h_wy.out
                replace h_mt := h_mt.out
                replace h_m5 := h_m5.out
                replace h_n5 := h_n5.out
                have H := Lib.hid (show (clashL x y) = true from by unfold clashL; simp [h_ow, h_tb, h_wx, h_wy, h_mt, h_n5])
                clear h_ow h_tb h_wx h_wy h_mt h_m5 h_n5
                go_wp2_with fail
                go_ret
                exact ⟨by first | (rw [H.out]; done) | (rw [H.out]; rfl), q⟩
              · have dan5 : (y.mode == 5) = false := beq_eq_false_iff_ne.2 h_n5
                have dbn5 : decide (y.mode = 5) = false := decide_eq_false h_n5
                have dcn5 : (y.mode = 5) = False := eq_false h_n5
                have ddn5 : (y.mode != 5) = true := bne_iff_ne.2 h_n5
                replace h_n5 := Lib.hid h_n5
                replace h_ow := h_ow.out
                replace h_tb := h_tb.out
                replace h_wx := h_wx.out
                replace h_wy := h_wy.out
                replace h_mt := h_mt.out
                replace h_m5 := h_m5.out
                replace h_n5 := h_n5.out
                have H := Lib.hid (show (clashL x y) = false from by unfold clashL; simp [h_ow, h_tb, h_wx, h_wy, h_mt, h_m5, h_n5])
                clear h_ow h_tb h_wx h_wy h_mt h_m5 h_n5
                go_wp2_with fail
                go_ret
                exact ⟨by first | (rw [H.out]; done) | (rw [H.out]; rfl), q⟩
          | false =>
            replace h_mt := Lib.hid h_mt
            replace h_ow := h_ow.out
            replace h_tb := h_tb.out
            replace h_wx := h_wx.out
            replace h_wy := h_wy.out
            replace h_mt := h_mt.out
            have H := Lib.hid (show (clashL x y) = false from by unfold clashL; simp [h_ow, h_tb, h_wx, h_wy, h_mt])
            clear h_ow h_tb h_wx h_wy h_mt
            go_wp2_with fail
            go_ret
            exact ⟨by first | (rw [H.out]; done) | (rw [H.out]; rfl), q⟩
    · have datb : (x.span.table == y.span.table) = false := beq_eq_false_iff_ne.2 h_tb
      have dbtb : decide (x.span.table = y.span.table) = false := decide_eq_false h_tb
      have dctb : (x.span.table = y.span.table) = False := eq_false h_tb
      have ddtb : (x.span.table != y.span.table) = true := bne_iff_ne.2 h_tb
      replace h_tb := Lib.hid h_tb
      replace h_ow := h_ow.out
      replace h_tb := h_tb.out
      have H := Lib.hid (show (clashL x y) = false from by unfold clashL; simp [h_ow, h_tb])
      clear h_ow h_tb
      go_wp2_with fail
      go_ret
      exact ⟨by first | (rw [H.out]; done) | (rw [H.out]; rfl), q⟩
set_option maxRecDepth 100000 in
set_option maxHeartbeats 4000000 in
theorem same_any (w : World) {S S2 : Nat → Prop} {u v : Value} {x y : Lk} (hx : RdLk S w u x) (hy : RdLk S2 w v y) :
    Calls Tryd.prog 30 #[u, v] w fun e w' => e = .returned (.bool (sameL x y)) ∧ Below w.heap.size w w' := by
  obtain ⟨a1, a2, a3, a4, rfl, hlx, hhx, hwx⟩ := hx
  have m1x : x.span.lo.length ≤ 9223372036854775807 := by have := hlx.len; unfold maxLen at this; omega
  have m2x : x.span.hi.length ≤ 9223372036854775807 := by have := hhx.len; unfold maxLen at this; omega
  obtain ⟨b1, b2, b3, b4, rfl, hly, hhy, hwy⟩ := hy
  have m1y : y.span.lo.length ≤ 9223372036854775807 := by have := hly.len; unfold maxLen at this; omega
  have m2y : y.span.hi.length ≤ 9223372036854775807 := by have := hhy.len; unfold maxLen at this; omega
  obtain ⟨W, hW, q, Bx, By, hsz⟩ := spBoxes2 w 52 29 [.int .i64 x.owner, .bool x.whole, .int .i64 x.span.table, .slice a1 x.span.lo.length a2, .slice a3 x.span.hi.length a4, .bool x.span.isOpen, .int .i64 x.mode] [.int .i64 y.owner, .bool y.whole, .int .i64 y.span.table, .slice b1 y.span.lo.length b2, .slice b3 y.span.hi.length b4, .bool y.span.isOpen, .int .i64 y.mode]
  clear hsz
  go_enter Tryd.func30, Tryd.ntmps30
  go_upto_region 1 with (fail)
  rw [show (w.alloc (.cells #[.int .i64 x.owner, .bool x.whole, .int .i64 x.span.table, .slice a1 x.span.lo.length a2, .slice a3 x.span.hi.length a4, .bool x.span.isOpen, .int .i64 x.mode] 52)).alloc (.cells #[.int .i64 y.owner, .bool y.whole, .int .i64 y.span.table, .slice b1 y.span.lo.length b2, .slice b3 y.span.hi.length b4, .bool y.span.isOpen, .int .i64 y.mode] 29) = W from hW.symm]
  clear hW
  have rxx := hlx.below q
  have ryx := hhx.below q
  clear hlx hhx
  have rxy := hly.below q
  have ryy := hhy.below q
  clear hly hhy
  have cx0 := Bx.cell (i := 0) rfl
  have cx1 := Bx.cell (i := 1) rfl
  have cx2 := Bx.cell (i := 2) rfl
  have cx3 := Bx.cell (i := 3) rfl
  have cx4 := Bx.cell (i := 4) rfl
  have cx5 := Bx.cell (i := 5) rfl
  have cx6 := Bx.cell (i := 6) rfl
  have cy0 := By.cell (i := 0) rfl
  have cy1 := By.cell (i := 1) rfl
  have cy2 := By.cell (i := 2) rfl
  have cy3 := By.cell (i := 3) rfl
  have cy4 := By.cell (i := 4) rfl
  have cy5 := By.cell (i := 5) rfl
  have cy6 := By.cell (i := 6) rfl
  have hcl := owns_any _ (show RdLk _ _ (.agg #[.int .i64 x.owner, .bool x.whole, .int .i64 x.span.table, .slice a1 x.span.lo.length a2, .slice a3 x.span.hi.length a4, .bool x.span.isOpen, .int .i64 x.mode]) x from ⟨_, _, _, _, rfl, rxx, ryx, hwx⟩) (show RdLk _ _ (.agg #[.int .i64 y.owner, .bool y.whole, .int .i64 y.span.table, .slice b1 y.span.lo.length b2, .slice b3 y.span.hi.length b4, .bool y.span.isOpen, .int .i64 y.mode]) y from ⟨_, _, _, _, rfl, rxy, ryy, hwy⟩)
  go_wp2_with fail
  refine hcl.mono ?_
  rintro e w1 ⟨rfl, hb⟩
  clear hcl
  clear cx0 cx1 cx2 cx3 cx4 cx5 cx6 cy0 cy1 cy2 cy3 cy4 cy5 cy6
  replace Bx := Bx.below hb Bx.lt
  replace By := By.below hb By.lt
  replace rxx := rxx.below hb
  replace ryx := ryx.below hb
  replace rxy := rxy.below hb
  replace ryy := ryy.below hb
  replace q := q.trans (hb.mono q.size)
  clear hb
  have cx0 := Bx.cell (i := 0) rfl
  have cx1 := Bx.cell (i := 1) rfl
  have cx2 := Bx.cell (i := 2) rfl
  have cx3 := Bx.cell (i := 3) rfl
  have cx4 := Bx.cell (i := 4) rfl
  have cx5 := Bx.cell (i := 5) rfl
  have cx6 := Bx.cell (i := 6) rfl
  have cy0 := By.cell (i := 0) rfl
  have cy1 := By.cell (i := 1) rfl
  have cy2 := By.cell (i := 2) rfl
  have cy3 := By.cell (i := 3) rfl
  have cy4 := By.cell (i := 4) rfl
  have cy5 := By.cell (i := 5) rfl
  have cy6 := By.cell (i := 6) rfl
  cases h_ow : ownsL x y with
  | true =>
    replace h_ow := Lib.hid h_ow
    cases h_wx : x.whole with
    | true =>
      rw [h_wx] at cx1
      replace h_wx := Lib.hid h_wx
      cases h_wy : y.whole with
      | true =>
        rw [h_wy] at cy1
        replace h_wy := Lib.hid h_wy
        by_cases h_tb : x.span.table = y.span.table
        · have datb : (x.span.table == y.span.table) = true := beq_iff_eq.2 h_tb
          have dbtb : decide (x.span.table = y.span.table) = true := decide_eq_true h_tb
          have dctb : (x.span.table = y.span.table) = True := eq_true h_tb
          have ddtb : (x.span.table != y.span.table) = false := by rw [bne_eq_false_iff_eq]; exact h_tb
          replace h_tb := Lib.hid h_tb
          replace h_ow := h_ow.out
          replace h_wx := h_wx.out
          replace h_wy := h_wy.out
          replace h_tb := h_tb.out
          have H := Lib.hid (show (sameL x y) = true from by have h9 := h_ow; unfold ownsL at h9; unfold sameL; simp at h9; simp [h9, h_wx, h_wy, h_tb])
          clear h_ow h_wx h_wy h_tb
          go_wp2_with fail
          go_ret
          exact ⟨by first | (rw [H.out]; done) | (rw [H.out]; rfl), q⟩
        · have datb : (x.span.table == y.span.table) = false := beq_eq_false_iff_ne.2 h_tb
          have dbtb : decide (x.span.table = y.span.table) = false := decide_eq_false h_tb
          have dctb : (x.span.table = y.span.table) = False := eq_false h_tb
          have ddtb : (x.span.table != y.span.table) = true := bne_iff_ne.2 h_tb
          replace h_tb := Lib.hid h_tb
          replace h_ow := h_ow.out
          replace h_wx := h_wx.out
          replace h_wy := h_wy.out
          replace h_tb := h_tb.out
          have H := Lib.hid (show (sameL x y) = false from by have h9 := h_ow; unfold ownsL at h9; unfold sameL; simp at h9; simp [h9, h_wx, h_wy, h_tb])
          clear h_ow h_wx h_wy h_tb
          go_wp2_with fail
          go_ret
          exact ⟨by first | (rw [H.out]; done) | (rw [H.out]; rfl), q⟩
      | false =>
        rw [h_wy] at cy1
        replace h_wy := Lib.hid h_wy
        replace h_ow := h_ow.out
        replace h_wx := h_wx.out
        replace h_wy := h_wy.out
        have H := Lib.hid (show (sameL x y) = false from by have h9 := h_ow; unfold ownsL at h9; unfold sameL; simp at h9; simp [h9, h_wx, h_wy])
        clear h_ow h_wx h_wy
        go_wp2_with fail
        go_ret
        exact ⟨by first | (rw [H.out]; done) | (rw [H.out]; rfl), q⟩
    | false =>
      rw [h_wx] at cx1
      replace h_wx := Lib.hid h_wx
      replace h_ow := h_ow.out
      replace h_wx := h_wx.out
      have H := Lib.hid (show (sameL x y) = false from by have h9 := h_ow; unfold ownsL at h9; unfold sameL; simp at h9; simp [h9, h_wx])
      clear h_ow h_wx
      go_wp2_with fail
      go_ret
      exact ⟨by first | (rw [H.out]; done) | (rw [H.out]; rfl), q⟩
  | false =>
    replace h_ow := Lib.hid h_ow
    replace h_ow := h_ow.out
    have H := Lib.hid (show (sameL x y) = false from by have h9 := h_ow; unfold ownsL at h9; unfold sameL; simp at h9; simp [h9])
    clear h_ow
    go_wp2_with fail
    go_ret
    exact ⟨by first | (rw [H.out]; done) | (rw [H.out]; rfl), q⟩
set_option maxRecDepth 100000 in
set_option maxHeartbeats 4000000 in
theorem clashes_any (w : World) (hT : TabAt w) {S S2 : Nat → Prop} {u v : Value} {x y : Lk} (hx : RdLk S w u x) (hy : RdLk S2 w v y) :
    Calls Tryd.prog 52 #[u, v] w fun e w' => e = .returned (.bool (clashL x y)) ∧ Below w.heap.size w w' := by
  obtain ⟨a1, a2, a3, a4, rfl, hlx, hhx, hwx⟩ := hx
  have m1x : x.span.lo.length ≤ 9223372036854775807 := by have := hlx.len; unfold maxLen at this; omega
  have m2x : x.span.hi.length ≤ 9223372036854775807 := by have := hhx.len; unfold maxLen at this; omega
  obtain ⟨b1, b2, b3, b4, rfl, hly, hhy, hwy⟩ := hy
  have m1y : y.span.lo.length ≤ 9223372036854775807 := by have := hly.len; unfold maxLen at this; omega
  have m2y : y.span.hi.length ≤ 9223372036854775807 := by have := hhy.len; unfold maxLen at this; omega
  obtain ⟨W, hW, q, Bx, By, hsz⟩ := spBoxes2 w 52 29 [.int .i64 x.owner, .bool x.whole, .int .i64 x.span.table, .slice a1 x.span.lo.length a2, .slice a3 x.span.hi.length a4, .bool x.span.isOpen, .int .i64 x.mode] [.int .i64 y.owner, .bool y.whole, .int .i64 y.span.table, .slice b1 y.span.lo.length b2, .slice b3 y.span.hi.length b4, .bool y.span.isOpen, .int .i64 y.mode]
  clear hsz
  go_enter Tryd.func52, Tryd.ntmps52
  go_upto_region 1 with (fail)
  rw [show (w.alloc (.cells #[.int .i64 x.owner, .bool x.whole, .int .i64 x.span.table, .slice a1 x.span.lo.length a2, .slice a3 x.span.hi.length a4, .bool x.span.isOpen, .int .i64 x.mode] 52)).alloc (.cells #[.int .i64 y.owner, .bool y.whole, .int .i64 y.span.table, .slice b1 y.span.lo.length b2, .slice b3 y.span.hi.length b4, .bool y.span.isOpen, .int .i64 y.mode] 29) = W from hW.symm]
  clear hW
  have rxx := hlx.below q
  have ryx := hhx.below q
  clear hlx hhx
  have rxy := hly.below q
  have ryy := hhy.below q
  clear hly hhy
  replace hT := hT.below q
  have cx0 := Bx.cell (i := 0) rfl
  have cx1 := Bx.cell (i := 1) rfl
  have cx2 := Bx.cell (i := 2) rfl
  have cx3 := Bx.cell (i := 3) rfl
  have cx4 := Bx.cell (i := 4) rfl
  have cx5 := Bx.cell (i := 5) rfl
  have cx6 := Bx.cell (i := 6) rfl
  have cy0 := By.cell (i := 0) rfl
  have cy1 := By.cell (i := 1) rfl
  have cy2 := By.cell (i := 2) rfl
  have cy3 := By.cell (i := 3) rfl
  have cy4 := By.cell (i := 4) rfl
  have cy5 := By.cell (i := 5) rfl
  have cy6 := By.cell (i := 6) rfl
  have hcl := clash_any _ hT (show RdLk _ _ (.agg #[.int .i64 x.owner, .bool x.whole, .int .i64 x.span.table, .slice a1 x.span.lo.length a2, .slice a3 x.span.hi.length a4, .bool x.span.isOpen, .int .i64 x.mode]) x from ⟨_, _, _, _, rfl, rxx, ryx, hwx⟩) (show RdLk _ _ (.agg #[.int .i64 y.owner, .bool y.whole, .int .i64 y.span.table, .slice b1 y.span.lo.length b2, .slice b3 y.span.hi.length b4, .bool y.span.isOpen, .int .i64 y.mode]) y from ⟨_, _, _, _, rfl, rxy, ryy, hwy⟩)
  go_wp2_with fail
  refine hcl.mono ?_
  rintro e w1 ⟨rfl, hb⟩
  clear hcl
  clear cx0 cx1 cx2 cx3 cx4 cx5 cx6 cy0 cy1 cy2 cy3 cy4 cy5 cy6
  replace Bx := Bx.below hb Bx.lt
  replace By := By.below hb By.lt
  replace rxx := rxx.below hb
  replace ryx := ryx.below hb
  replace rxy := rxy.below hb
  replace ryy := ryy.below hb
  replace hT := hT.below hb
  replace q := q.trans (hb.mono q.size)
  clear hb
  have cx0 := Bx.cell (i := 0) rfl
  have cx1 := Bx.cell (i := 1) rfl
  have cx2 := Bx.cell (i := 2) rfl
  have cx3 := Bx.cell (i := 3) rfl
  have cx4 := Bx.cell (i := 4) rfl
  have cx5 := Bx.cell (i := 5) rfl
  have cx6 := Bx.cell (i := 6) rfl
  have cy0 := By.cell (i := 0) rfl
  have cy1 := By.cell (i := 1) rfl
  have cy2 := By.cell (i := 2) rfl
  have cy3 := By.cell (i := 3) rfl
  have cy4 := By.cell (i := 4) rfl
  have cy5 := By.cell (i := 5) rfl
  have cy6 := By.cell (i := 6) rfl
  cases h_cl : clashL x y with
  | true =>
    replace h_cl := Lib.hid h_cl
    replace h_cl := h_cl.out
    have H := Lib.hid (show (clashL x y) = true from h_cl)
    clear h_cl
    go_wp2_with fail
    go_ret
    exact ⟨by first | (rw [H.out]; done) | (rw [H.out]; rfl), q⟩
  | false =>
    replace h_cl := Lib.hid h_cl
    replace h_cl := h_cl.out
    have H := Lib.hid (show (clashL x y) = false from h_cl)
    clear h_cl
    go_wp2_with fail
    go_ret
    exact ⟨by first | (rw [H.out]; done) | (rw [H.out]; rfl), q⟩
set_option maxRecDepth 100000 in
set_option maxHeartbeats 4000000 in
theorem served_any (w : World) {S S2 : Nat → Prop} {u v : Value} {x y : Lk} (hx : RdLk S w u x) (hy : RdLk S2 w v y) :
    Calls Tryd.prog 44 #[u, v] w fun e w' => e = .returned (.bool (servesL x y)) ∧ Below w.heap.size w w' := by
  obtain ⟨a1, a2, a3, a4, rfl, hlx, hhx, hwx⟩ := hx
  have m1x : x.span.lo.length ≤ 9223372036854775807 := by have := hlx.len; unfold maxLen at this; omega
  have m2x : x.span.hi.length ≤ 9223372036854775807 := by have := hhx.len; unfold maxLen at this; omega
  obtain ⟨b1, b2, b3, b4, rfl, hly, hhy, hwy⟩ := hy
  have m1y : y.span.lo.length ≤ 9223372036854775807 := by have := hly.len; unfold maxLen at this; omega
  have m2y : y.span.hi.length ≤ 9223372036854775807 := by have := hhy.len; unfold maxLen at this; omega
  obtain ⟨W, hW, q, Bx, By, hsz⟩ := spBoxes2 w 52 29 [.int .i64 x.owner, .bool x.whole, .int .i64 x.span.table, .slice a1 x.span.lo.length a2, .slice a3 x.span.hi.length a4, .bool x.span.isOpen, .int .i64 x.mode] [.int .i64 y.owner, .bool y.whole, .int .i64 y.span.table, .slice b1 y.span.lo.length b2, .slice b3 y.span.hi.length b4, .bool y.span.isOpen, .int .i64 y.mode]
  clear hsz
  go_enter Tryd.func44, Tryd.ntmps44
  go_upto_region 1 with (fail)
  rw [show (w.alloc (.cells #[.int .i64 x.owner, .bool x.whole, .int .i64 x.span.table, .slice a1 x.span.lo.length a2, .slice a3 x.span.hi.length a4, .bool x.span.isOpen, .int .i64 x.mode] 52)).alloc (.cells #[.int .i64 y.owner, .bool y.whole, .int .i64 y.span.table, .slice b1 y.span.lo.length b2, .slice b3 y.span.hi.length b4, .bool y.span.isOpen, .int .i64 y.mode] 29) = W from hW.symm]
  clear hW
  have rxx := hlx.below q
  have ryx := hhx.below q
  clear hlx hhx
  have rxy := hly.below q
  have ryy := hhy.below q
  clear hly hhy
  have cx0 := Bx.cell (i := 0) rfl
  have cx1 := Bx.cell (i := 1) rfl
  have cx2 := Bx.cell (i := 2) rfl
  have cx3 := Bx.cell (i := 3) rfl
  have cx4 := Bx.cell (i := 4) rfl
  have cx5 := Bx.cell (i := 5) rfl
  have cx6 := Bx.cell (i := 6) rfl
  have cy0 := By.cell (i := 0) rfl
  have cy1 := By.cell (i := 1) rfl
  have cy2 := By.cell (i := 2) rfl
  have cy3 := By.cell (i := 3) rfl
  have cy4 := By.cell (i := 4) rfl
  have cy5 := By.cell (i := 5) rfl
  have cy6 := By.cell (i := 6) rfl
  have hcl := owns_any _ (show RdLk _ _ (.agg #[.int .i64 x.owner, .bool x.whole, .int .i64 x.span.table, .slice a1 x.span.lo.length a2, .slice a3 x.span.hi.length a4, .bool x.span.isOpen, .int .i64 x.mode]) x from ⟨_, _, _, _, rfl, rxx, ryx, hwx⟩) (show RdLk _ _ (.agg #[.int .i64 y.owner, .bool y.whole, .int .i64 y.span.table, .slice b1 y.span.lo.length b2, .slice b3 y.span.hi.length b4, .bool y.span.isOpen, .int .i64 y.mode]) y from ⟨_, _, _, _, rfl, rxy, ryy, hwy⟩)
  go_wp2_with fail
  refine hcl.mono ?_
  rintro e w1 ⟨rfl, hb⟩
  clear hcl
  clear cx0 cx1 cx2 cx3 cx4 cx5 cx6 cy0 cy1 cy2 cy3 cy4 cy5 cy6
  replace Bx := Bx.below hb Bx.lt
  replace By := By.below hb By.lt
  replace rxx := rxx.below hb
  replace ryx := ryx.below hb
  replace rxy := rxy.below hb
  replace ryy := ryy.below hb
  replace q := q.trans (hb.mono q.size)
  clear hb
  have cx0 := Bx.cell (i := 0) rfl
  have cx1 := Bx.cell (i := 1) rfl
  have cx2 := Bx.cell (i := 2) rfl
  have cx3 := Bx.cell (i := 3) rfl
  have cx4 := Bx.cell (i := 4) rfl
  have cx5 := Bx.cell (i := 5) rfl
  have cx6 := Bx.cell (i := 6) rfl
  have cy0 := By.cell (i := 0) rfl
  have cy1 := By.cell (i := 1) rfl
  have cy2 := By.cell (i := 2) rfl
  have cy3 := By.cell (i := 3) rfl
  have cy4 := By.cell (i := 4) rfl
  have cy5 := By.cell (i := 5) rfl
  have cy6 := By.cell (i := 6) rfl
  cases h_ow : ownsL x y with
  | true =>
    replace h_ow := Lib.hid h_ow
    by_cases h_tb : y.span.table = x.span.table
    · have datb : (y.span.table == x.span.table) = true := beq_iff_eq.2 h_tb
      have dbtb : decide (y.span.table = x.span.table) = true := decide_eq_true h_tb
      have dctb : (y.span.table = x.span.table) = True := eq_true h_tb
      have ddtb : (y.span.table != x.span.table) = false := by rw [bne_eq_false_iff_eq]; exact h_tb
      replace h_tb := Lib.hid h_tb
      have hcl := covers_any w1 y.mode x.mode
      go_wp2_with fail
      refine hcl.mono ?_
      rintro e _ ⟨rfl, rfl⟩
      clear hcl
      cases h_cv : covM y.mode x.mode with
      | true =>
        replace h_cv := Lib.hid h_cv
        cases h_wy : y.whole with
        | true =>
          rw [h_wy] at cy1
          replace h_wy := Lib.hid h_wy
          replace h_ow := h_ow.out
          replace h_tb := h_tb.out
          replace h_cv := h_cv.out
          replace h_wy := h_wy.out
          have H := Lib.hid (show (servesL x y) = true from by have h9 := h_ow; unfold ownsL at h9; unfold servesL; simp at h9; simp [h9, h_tb, h_cv, h_wy])
          clear h_ow h_tb h_cv h_wy
          go_wp2_with fail
          go_ret
          exact ⟨by first | (rw [H.out]; done) | (rw [H.out]; rfl), q⟩
        | false =>
          rw [h_wy] at cy1
          replace h_wy := Lib.hid h_wy
          cases h_wx : x.whole with
          | true =>
            rw [h_wx] at cx1
            replace h_wx := Lib.hid h_wx
            replace h_ow := h_ow.out
            replace h_tb := h_tb.out
            replace h_cv := h_cv.out
            replace h_wy := h_wy.out
            replace h_wx := h_wx.out
            have H := Lib.hid (show (servesL x y) = false from by have h9 := h_ow; unfold ownsL at h9; unfold servesL; simp at h9; simp [h9, h_tb, h_cv, h_wy, h_wx])
            clear h_ow h_tb h_cv h_wy h_wx
            go_wp2_with fail
            go_ret
            exact ⟨by first | (rw [H.out]; done) | (rw [H.out]; rfl), q⟩
          | false =>
            rw [h_wx] at cx1
            replace h_wx := Lib.hid h_wx
            have hcl := sCovers_any _ (RdLk.sp (show RdLk _ _ (.agg #[.int .i64 y.owner, .bool y.whole, .int .i64 y.span.table, .slice b1 y.span.lo.length b2, .slice b3 y.span.hi.length b4, .bool y.span.isOpen, .int .i64 y.mode]) y from ⟨_, _, _, _, rfl, rxy, ryy, hwy⟩)) (RdLk.sp (show RdLk _ _ (.agg #[.int .i64 x.owner, .bool x.whole, .int .i64 x.span.table, .slice a1 x.span.lo.length a2, .slice a3 x.span.hi.length a4, .bool x.span.isOpen, .int .i64 x.mode]) x from ⟨_, _, _, _, rfl, rxx, ryx, hwx⟩))
            go_wp2_with fail
            refine hcl.mono ?_
            rintro e w1 ⟨rfl, hb⟩
            clear hcl
            clear cx0 cx1 cx2 cx3 cx4 cx5 cx6 cy0 cy1 cy2 cy3 cy4 cy5 cy6
            replace Bx := Bx.below hb Bx.lt
            replace By := By.below hb By.lt
            replace rxx := rxx.below hb
            replace ryx := ryx.below hb
            replace rxy := rxy.below hb
            replace ryy := ryy.below hb
            replace q := q.trans (hb.mono q.size)
            clear hb
            have cx0 := Bx.cell (i := 0) rfl
            have cx1 := Bx.cell (i := 1) rfl
            have cx2 := Bx.cell (i := 2) rfl
            have cx3 := Bx.cell (i := 3) rfl
            have cx4 := Bx.cell (i := 4) rfl
            have cx5 := Bx.cell (i := 5) rfl
            have cx6 := Bx.cell (i := 6) rfl
            have cy0 := By.cell (i := 0) rfl
            have cy1 := By.cell (i := 1) rfl
            have cy2 := By.cell (i := 2) rfl
            have cy3 := By.cell (i := 3) rfl
            have cy4 := By.cell (i := 4) rfl
            have cy5 := By.cell (i := 5) rfl
            have cy6 := By.cell (i := 6) rfl
            cases h_cs : coversS y.span x.span with
            | true =>
              replace h_cs := Lib.hid h_cs
              replace h_ow := h_ow.out
              replace h_tb := h_tb.out
              replace h_cv := h_cv.out
              replace h_wy := h_wy.out
              replace h_wx := h_wx.out
              replace h_cs := h_cs.out
              have H := Lib.hid (show (servesL x y) = true from by have h9 := h_ow; unfold ownsL at h9; unfold servesL; simp at h9; simp [h9, h_tb, h_cv, h_wy, h_wx, h_cs])
              clear h_ow h_tb h_cv h_wy h_wx h_cs
              go_wp2_with fail
              go_ret
              exact ⟨by first | (rw [H.out]; done) | (rw [H.out]; rfl), q⟩
            | false =>
              replace h_cs := Lib.hid h_cs
              replace h_ow := h_ow.out
              replace h_tb := h_tb.out
              replace h_cv := h_cv.out
              replace h_wy := h_wy.out
              replace h_wx := h_wx.out
              replace h_cs := h_cs.out
              have H := Lib.hid (show (servesL x y) = false from by have h9 := h_ow; unfold ownsL at h9; unfold servesL; simp at h9; simp [h9, h_tb, h_cv, h_wy, h_wx, h_cs])
              clear h_ow h_tb h_cv h_wy h_wx h_cs
              go_wp2_with fail
              go_ret
              exact ⟨by first | (rw [H.out]; done) | (rw [H.out]; rfl), q⟩
      | false =>
        replace h_cv := Lib.hid h_cv
        replace h_ow := h_ow.out
        replace h_tb := h_tb.out
        replace h_cv := h_cv.out
        have H := Lib.hid (show (servesL x y) = false from by have h9 := h_ow; unfold ownsL at h9; unfold servesL; simp at h9; simp [h9, h_tb, h_cv])
        clear h_ow h_tb h_cv
        go_wp2_with fail
        go_ret
        exact ⟨by first | (rw [H.out]; done) | (rw [H.out]; rfl), q⟩
    · have datb : (y.span.table == x.span.table) = false := beq_eq_false_iff_ne.2 h_tb
      have dbtb : decide (y.span.table = x.span.table) = false := decide_eq_false h_tb
      have dctb : (y.span.table = x.span.table) = False := eq_false h_tb
      have ddtb : (y.span.table != x.span.table) = true := bne_iff_ne.2 h_tb
      replace h_tb := Lib.hid h_tb
      replace h_ow := h_ow.out
      replace h_tb := h_tb.out
      have H := Lib.hid (show (servesL x y) = false from by have h9 := h_ow; unfold ownsL at h9; unfold servesL; simp at h9; simp [h9, h_tb])
      clear h_ow h_tb
      go_wp2_with fail
      go_ret
      exact ⟨by first | (rw [H.out]; done) | (rw [H.out]; rfl), q⟩
  | false =>
    replace h_ow := Lib.hid h_ow
    replace h_ow := h_ow.out
    have H := Lib.hid (show (servesL x y) = false from by have h9 := h_ow; unfold ownsL at h9; unfold servesL; simp at h9; simp [h9])
    clear h_ow
    go_wp2_with fail
    go_ret
    exact ⟨by first | (rw [H.out]; done) | (rw [H.out]; rfl), q⟩
set_option maxRecDepth 100000 in
set_option maxHeartbeats 4000000 in
theorem wrong_any (w : World) {S : Nat → Prop} {u : Value} {x : Lk} (hx : RdLk S w u x) :
    Calls Tryd.prog 28 #[u] w fun e w' => e = .returned (.bool (!fine x)) ∧ Below w.heap.size w w' := by
  obtain ⟨a1, a2, a3, a4, rfl, hlx, hhx, hwx⟩ := hx
  have m1x : x.span.lo.length ≤ 9223372036854775807 := by have := hlx.len; unfold maxLen at this; omega
  have m2x : x.span.hi.length ≤ 9223372036854775807 := by have := hhx.len; unfold maxLen at this; omega
  obtain ⟨W, hW, q, Bx, hsz⟩ := spBox w 29 [.int .i64 x.owner, .bool x.whole, .int .i64 x.span.table, .slice a1 x.span.lo.length a2, .slice a3 x.span.hi.length a4, .bool x.span.isOpen, .int .i64 x.mode]
  clear hsz
  go_enter Tryd.func28, Tryd.ntmps28
  go_upto_region 1 with (fail)
  rw [show w.alloc (.cells #[.int .i64 x.owner, .bool x.whole, .int .i64 x.span.table, .slice a1 x.span.lo.length a2, .slice a3 x.span.hi.length a4, .bool x.span.isOpen, .int .i64 x.mode] 29) = W from hW.symm]
  clear hW
  have rxx := hlx.below q
  have ryx := hhx.below q
  clear hlx hhx
  have cx0 := Bx.cell (i := 0) rfl
  have cx1 := Bx.cell (i := 1) rfl
  have cx2 := Bx.cell (i := 2) rfl
  have cx3 := Bx.cell (i := 3) rfl
  have cx4 := Bx.cell (i := 4) rfl
  have cx5 := Bx.cell (i := 5) rfl
  have cx6 := Bx.cell (i := 6) rfl
  by_cases h_o0 : 0 ≤ x.owner
  · have do0a : decide (x.owner < 0) = false := decide_eq_false (by omega)
    replace h_o0 := Lib.hid h_o0
    by_cases h_o4 : x.owner < 4
    · have do4a : decide (4 ≤ x.owner) = false := decide_eq_false (by omega)
      replace h_o4 := Lib.hid h_o4
      have hcl := sCheck_any _ (RdLk.sp (show RdLk _ _ (.agg #[.int .i64 x.owner, .bool x.whole, .int .i64 x.span.table, .slice a1 x.span.lo.length a2, .slice a3 x.span.hi.length a4, .bool x.span.isOpen, .int .i64 x.mode]) x from ⟨_, _, _, _, rfl, rxx, ryx, hwx⟩))
      go_wp2_with fail
      refine hcl.mono ?_
      rintro e w1 ⟨rfl, hb⟩
      clear hcl
      clear cx0 cx1 cx2 cx3 cx4 cx5 cx6
      replace Bx := Bx.below hb Bx.lt
      replace rxx := rxx.below hb
      replace ryx := ryx.below hb
      replace q := q.trans (hb.mono q.size)
      clear hb
      have cx0 := Bx.cell (i := 0) rfl
      have cx1 := Bx.cell (i := 1) rfl
      have cx2 := Bx.cell (i := 2) rfl
      have cx3 := Bx.cell (i := 3) rfl
      have cx4 := Bx.cell (i := 4) rfl
      have cx5 := Bx.cell (i := 5) rfl
      have cx6 := Bx.cell (i := 6) rfl
      cases h_ck : decide (mayS x.span) with
      | true =>
        have k1 := (of_decide_eq_true h_ck).2.2.1
        have k2 := (of_decide_eq_true h_ck).2.2.2.1
        replace h_ck := Lib.hid h_ck
        cases h_wx : x.whole with
        | true =>
          rw [h_wx] at cx1
          replace h_wx := Lib.hid h_wx
          by_cases h_m1 : 1 ≤ x.mode
          · have dm1a : decide (x.mode < 1) = false := decide_eq_false (by omega)
            replace h_m1 := Lib.hid h_m1
            by_cases h_m5w : x.mode ≤ 5
            · have dm5a : decide (5 < x.mode) = false := decide_eq_false (by omega)
              replace h_m5w := Lib.hid h_m5w
              cases h_op : x.span.isOpen with
              | true =>
                rw [h_op] at cx5
                replace h_op := Lib.hid h_op
                replace h_o0 := h_o0.out
                replace h_o4 := h_o4.out
                replace h_ck := h_ck.out
                replace h_wx := h_wx.out
                replace h_m1 := h_m1.out
                replace h_m5w := h_m5w.out
                replace h_op := h_op.out
                have H := Lib.hid (show (!fine x) = true from by
      rw [show fine x = false from eq_false_of_ne_true fun h0 => by
        have h := fine_iff.1 h0
        rcases h.2.2 with ⟨_, _, h1, _⟩ | ⟨h1, _⟩ <;> simp_all]; rfl)
                clear h_o0 h_o4 h_ck h_wx h_m1 h_m5w h_op
                go_wp2_with fail
                go_ret
                exact ⟨by first | (rw [H.out]; done) | (rw [H.out]; rfl), q⟩
              | false =>
                rw [h_op] at cx5
                replace h_op := Lib.hid h_op
                by_cases h_ln : x.span.lo.length + x.span.hi.length = 0
                · have dlna : decide (0 < (x.span.lo.length : Int) + (x.span.hi.length : Int)) = false := decide_eq_false (by omega)
                  replace h_ln := Lib.hid h_ln
                  replace h_o0 := h_o0.out
                  replace h_o4 := h_o4.out
                  replace h_ck := h_ck.out
                  replace h_wx := h_wx.out
                  replace h_m1 := h_m1.out
                  replace h_m5w := h_m5w.out
                  replace h_op := h_op.out
                  replace h_ln := h_ln.out
                  have H := Lib.hid (show (!fine x) = false from by rw [show fine x = true from fine_iff.2 ⟨⟨by omega, by omega⟩, of_decide_eq_true h_ck, .inl ⟨h_wx, (kn_iff.2 ⟨by omega, by omega⟩), h_op, by omega⟩⟩]; rfl)
                  clear h_o0 h_o4 h_ck h_wx h_m1 h_m5w h_op h_ln
                  go_wp2_with fail
                  go_ret
                  exact ⟨by first | (rw [H.out]; done) | (rw [H.out]; rfl), q⟩
                · have dlna : decide (0 < (x.span.lo.length : Int) + (x.span.hi.length : Int)) = true := decide_eq_true (by omega)
                  replace h_ln := Lib.hid h_ln
                  replace h_o0 := h_o0.out
                  replace h_o4 := h_o4.out
                  replace h_ck := h_ck.out
                  replace h_wx := h_wx.out
                  replace h_m1 := h_m1.out
                  replace h_m5w := h_m5w.out
                  replace h_op := h_op.out
                  replace h_ln := h_ln.out
                  have H := Lib.hid (show (!fine x) = true from by
      rw [show fine x = false from eq_false_of_ne_true fun h0 => by
        have h := fine_iff.1 h0
        rcases h.2.2 with ⟨_, _, _, h1⟩ | ⟨h1, _⟩
        · omega
        · rw [h_wx] at h1; cases h1]; rfl)
                  clear h_o0 h_o4 h_ck h_wx h_m1 h_m5w h_op h_ln
                  go_wp2_with fail
                  go_ret
                  exact ⟨by first | (rw [H.out]; done) | (rw [H.out]; rfl), q⟩
            · have dm5a : decide (5 < x.mode) = true := decide_eq_true (by omega)
              replace h_m5w := Lib.hid h_m5w
              replace h_o0 := h_o0.out
              replace h_o4 := h_o4.out
              replace h_ck := h_ck.out
              replace h_wx := h_wx.out
              replace h_m1 := h_m1.out
              replace h_m5w := h_m5w.out
              have H := Lib.hid (show (!fine x) = true from by
      rw [show fine x = false from eq_false_of_ne_true fun h0 => by
        have h := fine_iff.1 h0
        have := kn_iff.1 (fine_kn (fine_iff.2 h)); omega]; rfl)
              clear h_o0 h_o4 h_ck h_wx h_m1 h_m5w
              go_wp2_with fail
              go_ret
              exact ⟨by first | (rw [H.out]; done) | (rw [H.out]; rfl), q⟩
          · have dm1a : decide (x.mode < 1) = true := decide_eq_true (by omega)
            replace h_m1 := Lib.hid h_m1
            replace h_o0 := h_o0.out
            replace h_o4 := h_o4.out
            replace h_ck := h_ck.out
            replace h_wx := h_wx.out
            replace h_m1 := h_m1.out
            have H := Lib.hid (show (!fine x) = true from by
      rw [show fine x = false from eq_false_of_ne_true fun h0 => by
        have h := fine_iff.1 h0
        have := kn_iff.1 (fine_kn (fine_iff.2 h)); omega]; rfl)
            clear h_o0 h_o4 h_ck h_wx h_m1
            go_wp2_with fail
            go_ret
            exact ⟨by first | (rw [H.out]; done) | (rw [H.out]; rfl), q⟩
        | false =>
          rw [h_wx] at cx1
          replace h_wx := Lib.hid h_wx
          have hcl := sEmpty_any _ (RdLk.sp (show RdLk _ _ (.agg #[.int .i64 x.owner, .bool x.whole, .int .i64 x.span.table, .slice a1 x.span.lo.length a2, .slice a3 x.span.hi.length a4, .bool x.span.isOpen, .int .i64 x.mode]) x from ⟨_, _, _, _, rfl, rxx, ryx, hwx⟩))
          go_wp2_with fail
          refine hcl.mono ?_
          rintro e w1 ⟨rfl, hb⟩
          clear hcl
          clear cx0 cx1 cx2 cx3 cx4 cx5 cx6
          replace Bx := Bx.below hb Bx.lt
          replace rxx := rxx.below hb
          replace ryx := ryx.below hb
          replace q := q.trans (hb.mono q.size)
          clear hb
          have cx0 := Bx.cell (i := 0) rfl
          have cx1 := Bx.cell (i := 1) rfl
          have cx2 := Bx.cell (i := 2) rfl
          have cx3 := Bx.cell (i := 3) rfl
          have cx4 := Bx.cell (i := 4) rfl
          have cx5 := Bx.cell (i := 5) rfl
          have cx6 := Bx.cell (i := 6) rfl
          cases h_em : emptyS x.span with
          | true =>
            replace h_em := Lib.hid h_em
            replace h_o0 := h_o0.out
            replace h_o4 := h_o4.out
            replace h_ck := h_ck.out
            replace h_wx := h_wx.out
            replace h_em := h_em.out
            have H := Lib.hid (show (!fine x) = true from by
      rw [show fine x = false from eq_false_of_ne_true fun h0 => by
        have h := fine_iff.1 h0
        rcases h.2.2 with ⟨h1, _⟩ | ⟨_, h1, _⟩ <;> simp_all]; rfl)
            clear h_o0 h_o4 h_ck h_wx h_em
            go_wp2_with fail
            go_ret
            exact ⟨by first | (rw [H.out]; done) | (rw [H.out]; rfl), q⟩
          | false =>
            replace h_em := Lib.hid h_em
            by_cases h_m3 : x.mode = 3
            · have dam3 : (x.mode == 3) = true := beq_iff_eq.2 h_m3
              have dbm3 : decide (x.mode = 3) = true := decide_eq_true h_m3
              have dcm3 : (x.mode = 3) = True := eq_true h_m3
              have ddm3 : (x.mode != 3) = false := by rw [bne_eq_false_iff_eq]; exact h_m3
              replace h_m3 := Lib.hid h_m3
              replace h_o0 := h_o0.out
              replace h_o4 := h_o4.out
              replace h_ck := h_ck.out
              replace h_wx := h_wx.out
              replace h_em := h_em.out
              replace h_m3 := h_m3.out
              have H := Lib.hid (show (!fine x) = false from by rw [show fine x = true from fine_iff.2 ⟨⟨by omega, by omega⟩, of_decide_eq_true h_ck, .inr ⟨h_wx, h_em, .inl h_m3⟩⟩]; rfl)
              clear h_o0 h_o4 h_ck h_wx h_em h_m3
              go_wp2_with fail
              go_ret
              exact ⟨by first | (rw [H.out]; done) | (rw [H.out]; rfl), q⟩
            · have dam3 : (x.mode == 3) = false := beq_eq_false_iff_ne.2 h_m3
              have dbm3 : decide (x.mode = 3) = false := decide_eq_false h_m3
              have dcm3 : (x.mode = 3) = False := eq_false h_m3
              have ddm3 : (x.mode != 3) = true := bne_iff_ne.2 h_m3
              replace h_m3 := Lib.hid h_m3
              by_cases h_m5 : x.mode = 5
              · have dam5 : (x.mode == 5) = true := beq_iff_eq.2 h_m5
                have dbm5 : decide (x.mode = 5) = true := decide_eq_true h_m5
                have dcm5 : (x.mode = 5) = True := eq_true h_m5
                have ddm5 : (x.mode != 5) = false := by rw [bne_eq_false_iff_eq]; exact h_m5
                replace h_m5 := Lib.hid h_m5
                replace h_o0 := h_o0.out
                replace h_o4 := h_o4.out
                replace h_ck := h_ck.out
                replace h_wx := h_wx.out
                replace h_em := h_em.out
                replace h_m3 := h_m3.out
                replace h_m5 := h_m5.out
                have H := Lib.hid (show (!fine x) = false from by rw [show fine x = true from fine_iff.2 ⟨⟨by omega, by omega⟩, of_decide_eq_true h_ck, .inr ⟨h_wx, h_em, .inr h_m5⟩⟩]; rfl)
                clear h_o0 h_o4 h_ck h_wx h_em h_m3 h_m5
                go_wp2_with fail
                go_ret
                exact ⟨by first | (rw [H.out]; done) | (rw [H.out]; rfl), q⟩
              · have dam5 : (x.mode == 5) = false := beq_eq_false_iff_ne.2 h_m5
                have dbm5 : decide (x.mode = 5) = false := decide_eq_false h_m5
                have dcm5 : (x.mode = 5) = False := eq_false h_m5
                have ddm5 : (x.mode != 5) = true := bne_iff_ne.2 h_m5
                replace h_m5 := Lib.hid h_m5
                replace h_o0 := h_o0.out
                replace h_o4 := h_o4.out
                replace h_ck := h_ck.out
                replace h_wx := h_wx.out
                replace h_em := h_em.out
                replace h_m3 := h_m3.out
                replace h_m5 := h_m5.out
                have H := Lib.hid (show (!fine x) = true from by
      rw [show fine x = false from eq_false_of_ne_true fun h0 => by
        have h := fine_iff.1 h0
        rcases h.2.2 with ⟨h1, _⟩ | ⟨_, _, h1⟩ <;> simp_all]; rfl)
                clear h_o0 h_o4 h_ck h_wx h_em h_m3 h_m5
                go_wp2_with fail
                go_ret
                exact ⟨by first | (rw [H.out]; done) | (rw [H.out]; rfl), q⟩
      | false =>
        replace h_ck := Lib.hid h_ck
        replace h_o0 := h_o0.out
        replace h_o4 := h_o4.out
        replace h_ck := h_ck.out
        have H := Lib.hid (show (!fine x) = true from by
      rw [show fine x = false from eq_false_of_ne_true fun h0 => by
        have h := fine_iff.1 h0
        exact absurd h.2.1 (of_decide_eq_false h_ck)]; rfl)
        clear h_o0 h_o4 h_ck
        go_wp2_with fail
        go_ret
        exact ⟨by first | (rw [H.out]; done) | (rw [H.out]; rfl), q⟩
    · have do4a : decide (4 ≤ x.owner) = true := decide_eq_true (by omega)
      replace h_o4 := Lib.hid h_o4
      replace h_o0 := h_o0.out
      replace h_o4 := h_o4.out
      have H := Lib.hid (show (!fine x) = true from by
      rw [show fine x = false from eq_false_of_ne_true fun h0 => by
        have h := fine_iff.1 h0
        have := h.1; omega]; rfl)
      clear h_o0 h_o4
      go_wp2_with fail
      go_ret
      exact ⟨by first | (rw [H.out]; done) | (rw [H.out]; rfl), q⟩
  · have do0a : decide (x.owner < 0) = true := decide_eq_true (by omega)
    replace h_o0 := Lib.hid h_o0
    replace h_o0 := h_o0.out
    have H := Lib.hid (show (!fine x) = true from by
      rw [show fine x = false from eq_false_of_ne_true fun h0 => by
        have h := fine_iff.1 h0
        have := h.1; omega]; rfl)
    clear h_o0
    go_wp2_with fail
    go_ret
    exact ⟨by first | (rw [H.out]; done) | (rw [H.out]; rfl), q⟩
set_option maxRecDepth 100000 in
set_option maxHeartbeats 4000000 in
theorem shortL_any (w : World) {S : Nat → Prop} {u : Value} {x : Lk} (hx : RdLk S w u x) :
    Calls Tryd.prog 8 #[u] w fun e w' => e = .returned (.bool (decide (shortS x.span))) ∧ Below w.heap.size w w' := by
  obtain ⟨a1, a2, a3, a4, rfl, hlx, hhx, hwx⟩ := hx
  have m1x : x.span.lo.length ≤ 9223372036854775807 := by have := hlx.len; unfold maxLen at this; omega
  have m2x : x.span.hi.length ≤ 9223372036854775807 := by have := hhx.len; unfold maxLen at this; omega
  obtain ⟨W, hW, q, Bx, hsz⟩ := spBox w 29 [.int .i64 x.owner, .bool x.whole, .int .i64 x.span.table, .slice a1 x.span.lo.length a2, .slice a3 x.span.hi.length a4, .bool x.span.isOpen, .int .i64 x.mode]
  clear hsz
  go_enter Tryd.func8, Tryd.ntmps8
  go_upto_region 1 with (fail)
  rw [show w.alloc (.cells #[.int .i64 x.owner, .bool x.whole, .int .i64 x.span.table, .slice a1 x.span.lo.length a2, .slice a3 x.span.hi.length a4, .bool x.span.isOpen, .int .i64 x.mode] 29) = W from hW.symm]
  clear hW
  have rxx := hlx.below q
  have ryx := hhx.below q
  clear hlx hhx
  have cx0 := Bx.cell (i := 0) rfl
  have cx1 := Bx.cell (i := 1) rfl
  have cx2 := Bx.cell (i := 2) rfl
  have cx3 := Bx.cell (i := 3) rfl
  have cx4 := Bx.cell (i := 4) rfl
  have cx5 := Bx.cell (i := 5) rfl
  have cx6 := Bx.cell (i := 6) rfl
  by_cases h_lo : x.span.lo.length ≤ 100
  · have dloa : decide ((x.span.lo.length : Int) ≤ 100) = true := decide_eq_true (by omega)
    replace h_lo := Lib.hid h_lo
    by_cases h_hi : x.span.hi.length ≤ 100
    · have dhia : decide ((x.span.hi.length : Int) ≤ 100) = true := decide_eq_true (by omega)
      replace h_hi := Lib.hid h_hi
      replace h_lo := h_lo.out
      replace h_hi := h_hi.out
      have H := Lib.hid (show (decide (shortS x.span)) = true from decide_eq_true ⟨by omega, by omega⟩)
      clear h_lo h_hi
      go_wp2_with fail
      go_ret
      exact ⟨by first | (rw [H.out]; done) | (rw [H.out]; rfl), q⟩
    · have dhia : decide ((x.span.hi.length : Int) ≤ 100) = false := decide_eq_false (by omega)
      replace h_hi := Lib.hid h_hi
      replace h_lo := h_lo.out
      replace h_hi := h_hi.out
      have H := Lib.hid (show (decide (shortS x.span)) = false from decide_eq_false fun h => by have := h.1; have := h.2; omega)
      clear h_lo h_hi
      go_wp2_with fail
      go_ret
      exact ⟨by first | (rw [H.out]; done) | (rw [H.out]; rfl), q⟩
  · have dloa : decide ((x.span.lo.length : Int) ≤ 100) = false := decide_eq_false (by omega)
    replace h_lo := Lib.hid h_lo
    replace h_lo := h_lo.out
    have H := Lib.hid (show (decide (shortS x.span)) = false from decide_eq_false fun h => by have := h.1; have := h.2; omega)
    clear h_lo
    go_wp2_with fail
    go_ret
    exact ⟨by first | (rw [H.out]; done) | (rw [H.out]; rfl), q⟩
end Go.Proofs.YtccoklhmbikfmaaDoor
namespace Go.Proofs.YtccoklhmbikfmaaDoor
open Go.RowKit Go.Shelf
def FndK (p : Lk → Bool) (l : List Lk) (v : Int) : Prop := (v = -1 ∧ ∀ y ∈ l, p y = false) ∨ ∃ (j : Nat) (h : j < l.length), v = (j : Int) ∧ p l[j] = true ∧ ∀ y ∈ l.take j, p y = false
def TellsK (F : FuncId) (bs caps : Array Value) (S : Nat → Prop) (w : World) (p : Lk → Bool) : Prop :=
  ∀ (W : World) (v : Value) (x : Lk), Below w.heap.size w W → RdLk S W v x → Calls Tryd.prog F (bs ++ #[v] ++ caps) W fun e W' => e = .returned (.bool (p x)) ∧ Below W.heap.size W W'
set_option maxRecDepth 100000 in
set_option maxHeartbeats 4000000 in
theorem lIndex_any (w : World) {S : Nat → Prop} {a : Option Addr} {n c : Nat} {l : List Lk} (hl : RdL Elt.lk S w (.slice a n c) l) (F : FuncId) (bs caps : Array Value) (hE : Enters Tryd.prog F) (p : Lk → Bool) (hF : TellsK F bs caps S w p) :
    Calls Tryd.prog 45 #[.slice a n c, .func (.func F) bs caps] w fun e w' => ∃ i : Int, e = .returned (.int .i64 i) ∧ FndK p l i ∧ Below w.heap.size w w' := by
  obtain ⟨rfl, hnc, hcm⟩ := hl.len
  have hlm : l.length ≤ 9223372036854775807 := by unfold maxLen at hcm; omega
  have hEE := hE
  unfold Enters at hEE
  have q := Below.refl w.heap.size w
  go_enter Tryd.func45, Tryd.ntmps45
  go_upto_region 2 with (fail)
  go_loopw [5, 8] (fun _ iv wr => ∃ (k : Nat), iv = .int .i64 k ∧ k ≤ l.length ∧ (∀ x ∈ l.take k, p x = false) ∧ Below w.heap.size w wr)
    (fun _ i _ => l.length - (intOf i).toNat)
  case atStart => exact ⟨0, rfl, Nat.zero_le _, by simp, q⟩
  case round =>
    clear q
    obtain ⟨k, rfl, hkl, hall, q⟩ := hrel
    replace hall := Lib.hid hall
    rcases Nat.lt_or_ge k l.length with hlt | hge
    · obtain ⟨b, off, A, C, A2, C2, rfl, hb, c0, c1, c2, c3, c4, c5, c6, hk1, hk2, hw64⟩ := (hl.below q).lk k hlt
      have hw : RdLk S wr (.agg #[.int .i64 l[k].owner, .bool l[k].whole, .int .i64 l[k].span.table, .slice A l[k].span.lo.length C, .slice A2 l[k].span.hi.length C2, .bool l[k].span.isOpen, .int .i64 l[k].mode]) l[k] := ⟨A, C, A2, C2, rfl, hk1, hk2, hw64⟩
      go_upto_region 4 with (fail)
      go_wp2_with fail
      refine (hF wr _ _ q hw).mono ?_
      rintro e w1 ⟨rfl, hb1⟩
      replace q := q.trans (hb1.mono q.size)
      clear c0 c1 c2 c3 c4 c5 c6 hk1 hk2 hw
      cases hm : p l[k] with
      | false =>
        have hall2 := Lib.hid (show ∀ x ∈ l.take (k + 1), p x = false from fun x hx => by
          rw [List.take_succ_eq_append_getElem hlt] at hx
          rcases List.mem_append.1 hx with h | h
          · exact hall.out x h
          · simp at h; rw [h]; exact hm)
        clear hall hm
        go_wp2_with fail
        go_roundw
        case rel => exact ⟨k + 1, by go_num, by omega, hall2.out, q⟩
        case measure => simp [intOf]; omega
      | true =>
        replace hm := Lib.hid hm
        go_wp2_with fail
        go_ret
        exact ⟨_, rfl, .inr ⟨k, hlt, rfl, hm.out, hall.out⟩, q⟩
    · obtain rfl : k = l.length := by omega
      have hno := Lib.hid (show ∀ x ∈ l, p x = false from fun x hx => hall.out x (by rw [List.take_length]; exact hx))
      clear hall
      go_wp2_with fail
      go_ret
      exact ⟨_, rfl, .inl ⟨rfl, hno.out⟩, q⟩
theorem fnd_any {p : Lk → Bool} {l : List Lk} {i : Int} (h : FndK p l i) : decide (0 ≤ i) = l.any p := by
  rcases h with ⟨h1, h2⟩ | ⟨j, h1, h2, h3, _⟩
  · rw [decide_eq_false (by omega), List.any_eq_false.2 fun x hx => by simp [h2 x hx]]
  · rw [decide_eq_true (by omega), List.any_eq_true.2 ⟨_, List.getElem_mem h1, h3⟩]
set_option maxRecDepth 100000 in
set_option maxHeartbeats 4000000 in
theorem lContains_any (w : World) {S : Nat → Prop} {a : Option Addr} {n c : Nat} {l : List Lk} (hl : RdL Elt.lk S w (.slice a n c) l) (F : FuncId) (bs caps : Array Value) (hE : Enters Tryd.prog F) (p : Lk → Bool) (hF : TellsK F bs caps S w p) :
    Calls Tryd.prog 27 #[.slice a n c, .func (.func F) bs caps] w fun e w' => e = .returned (.bool (l.any p)) ∧ Below w.heap.size w w' := by
  go_enter Tryd.func27, Tryd.ntmps27
  go_wp2_with fail
  refine (lIndex_any w hl F bs caps hE p hF).mono ?_
  rintro e w1 ⟨i, rfl, hi, hb⟩
  have hd := Lib.hid (fnd_any hi)
  clear hi
  go_wp2_with fail
  go_ret
  exact ⟨by first | (rw [hd.out]; done) | (rw [← hd.out]; rfl), hb⟩
end Go.Proofs.YtccoklhmbikfmaaDoor
