/-
  TEXTS OF ONE PROOF, merged: DltZ, Push, Zro, DltE, DltA, DltB, DltC, DltS, Dmc.
-/
import Derived.Test.YtjbdkhddnblieaaMo3
namespace Go.Proofs.Ytjbdkhddnblieaa
open Go.RowKit Go.Shelf
theorem strOf_listD (xs : List UInt8) : (strOf xs).toList = xs := by simp [strOf]
end Go.Proofs.Ytjbdkhddnblieaa
namespace Go.Proofs.Ytjbdkhddnblieaa
open Go.RowKit
structure Twb (w A : World) (r : Option Nat) (b : Nat) : Prop where
  os : A.os = w.os
  tape : A.tape = w.tape
  output : A.output = w.output
  size : w.heap.size ≤ A.heap.size
  block : ∀ k, k < w.heap.size → some k ≠ r → k ≠ b → A.heap[k]? = w.heap[k]?
section
variable {w0 w A B : World} {r : Option Nat} {b : Nat}
theorem Twb.of_below (h : Below w.heap.size w A) : Twb w A r b := ⟨h.os, h.tape, h.output, h.size, fun k hk _ _ => h.block k hk⟩
theorem Twb.below (h : Twb w A r b) (k : Below A.heap.size A B) : Twb w B r b :=
  ⟨k.os.trans h.os, k.tape.trans h.tape, k.output.trans h.output, Nat.le_trans h.size k.size, fun j h1 h2 h3 => (k.block j (Nat.lt_of_lt_of_le h1 h.size)).trans (h.block j h1 h2 h3)⟩
theorem Twb.row (h : Twb w A r b) (k : A.grownBy B r) : Twb w B r b :=
  ⟨k.os.trans h.os, k.tape.trans h.tape, k.output.trans h.output, Nat.le_trans h.size k.size, fun j h1 h2 h3 => (k.block j (Nat.lt_of_lt_of_le h1 h.size) h2).trans (h.block j h1 h2 h3)⟩
theorem Twb.box (h : Twb w A r b) (k : A.grownBy B (some b)) : Twb w B r b :=
  ⟨k.os.trans h.os, k.tape.trans h.tape, k.output.trans h.output, Nat.le_trans h.size k.size, fun j h1 h2 h3 => (k.block j (Nat.lt_of_lt_of_le h1 h.size) (fun e => h3 (by injection e))).trans (h.block j h1 h2 h3)⟩
theorem Twb.refl : Twb w w r b := ⟨rfl, rfl, rfl, Nat.le_refl _, fun _ _ _ _ => rfl⟩
theorem Twb.belowB (h : Twb w A r b) (q : Below w0.heap.size w0 w) (hr : ∀ k, r = some k → w0.heap.size ≤ k) (hb : w0.heap.size ≤ b) : Below w0.heap.size w0 A :=
  ⟨h.os.trans q.os, h.tape.trans q.tape, h.output.trans q.output, Nat.le_trans q.size h.size, fun k hk => (h.block k (Nat.lt_of_lt_of_le hk q.size) (fun e => by have := hr k e.symm; omega) (by omega)).trans (q.block k hk)⟩
theorem Twb.boxN {g : Nat} {t : TypeId} {vs : List Value} (h : Twb w A r b) (hT : BoxN w g t vs) (hr : some g ≠ r) (hb : g ≠ b) : BoxN A g t vs := (h.block g hT.lt hr hb).trans hT
end
def Elt.but {α : Type} (E : Elt α) (b : Nat) : Elt α where
  size := E.size
  pos := E.pos
  R S w x vs := E.R (fun k => S k ∧ k ≠ b) w x vs
  len h := E.len h
  keep h hk := E.keep h fun k h2 => hk k h2.1
  weak h hs := E.weak h fun k h2 => ⟨hs k h2.1, h2.2⟩
  fit h := E.weak (E.fit h) fun _ h2 => ⟨⟨h2.1.1, h2.2⟩, h2.1.2⟩
  one h := E.one h
section
variable {α : Type} {E : Elt α} {Te : TypeId} {base lo : Nat} {b : Nat} {w w' : World} {v : Value} {xs : List α}
theorem Flat.but {S : Nat → Prop} (h : ∀ k, S k → k ≠ b) : ∀ {xs : List α} {vs : List Value}, Flat E S w xs vs → Flat (Elt.but E b) S w xs vs
  | [], _, hf => hf
  | _ :: _, _, ⟨us, ws, e, h1, h2⟩ => ⟨us, ws, e, E.weak h1 fun k hk => ⟨hk, h k hk⟩, Flat.but h h2⟩
theorem Flat.unbut {S : Nat → Prop} : ∀ {xs : List α} {vs : List Value}, Flat (Elt.but E b) S w xs vs → Flat E S w xs vs
  | [], _, hf => hf
  | _ :: _, _, ⟨us, ws, e, h1, h2⟩ => ⟨us, ws, e, E.weak h1 fun _ hk => hk.1, Flat.unbut h2⟩
theorem OwnL.but (h : OwnL E Te base lo w v xs) (hb : ∀ k, lo ≤ k → k < w.heap.size → k ≠ b) : OwnL (Elt.but E b) Te base lo w v xs := by
  obtain ⟨vs, h1, h2⟩ := h
  exact ⟨vs, h1, Flat.but (fun k hk => hb k hk.1 hk.2.1) h2⟩
theorem OwnL.unbut (h : OwnL (Elt.but E b) Te base lo w v xs) : OwnL E Te base lo w v xs := by
  obtain ⟨vs, h1, h2⟩ := h
  exact ⟨vs, h1, Flat.unbut h2⟩
theorem Flat.butKeep {S : Nat → Prop} (hk : ∀ k, S k → k ≠ b → w'.heap[k]? = w.heap[k]?) : ∀ {xs : List α} {vs : List Value}, Flat (Elt.but E b) S w xs vs → Flat (Elt.but E b) S w' xs vs
  | [], _, hf => hf
  | _ :: _, _, ⟨us, ws, e, h1, h2⟩ => ⟨us, ws, e, E.keep h1 fun k h3 => hk k h3.1 h3.2, Flat.butKeep hk h2⟩
theorem OwnL.butOther (h : OwnL (Elt.but E b) Te base lo w v xs) (hg : w.grownBy w' (some b)) (hv : v.ownBlock ≠ some b) : OwnL (Elt.but E b) Te base lo w' v xs := by
  obtain ⟨vs, h1, h2⟩ := h
  refine ⟨vs, h1.kept hg (.inr fun e => hv e), ?_⟩
  exact (Flat.butKeep (fun k hk hb => hg.block k hk.2.1 fun e => by injection e with e; exact hb e) h2).weak fun k hk => ⟨hk.1, Nat.lt_of_lt_of_le hk.2.1 hg.size, hk.2.2⟩
end
def PshJ {α : Type} (E : Elt α) (Te : TypeId) (base lo : Nat) (r : Option Nat) (b : Nat) (t : TypeId) (vs : List Value) (f : Nat) (W : World) (xs : List α) (x : α) : List Value → World → Prop
  | [], V => Below W.heap.size W V
  | [v], V => Below W.heap.size W V ∧ ∃ us : List Value, v.cells = us.toArray ∧ E.R (fun k => W.heap.size ≤ k ∧ k < V.heap.size) V x us
  | [_, s], V => Twb W V r b ∧ ∃ ad c, s = .slice ad (xs ++ [x]).length c ∧ OwnL (Elt.but E b) Te base lo V (.slice ad (xs ++ [x]).length c) (xs ++ [x]) ∧ BoxN V b t vs ∧ Value.ownBlock (.slice ad (xs ++ [x]).length c) ≠ some b
  | _, V => Twb W V r b ∧ ∃ ad c, OwnL (Elt.but E b) Te base lo V (.slice ad (xs ++ [x]).length c) (xs ++ [x]) ∧ BoxN V b t (vs.set f (.slice ad (xs ++ [x]).length c)) ∧ Value.ownBlock (.slice ad (xs ++ [x]).length c) ≠ some b
section
variable {α : Type} {E : Elt α} {Te : TypeId} {base lo : Nat} {r : Option Nat} {b : Nat} {t : TypeId} {vs : List Value} {f : Nat} {W : World} {xs : List α} {x : α}
theorem PshJ.below : ∀ (l : List Value) (V V' : World), PshJ E Te base lo r b t vs f W xs x l V → Below V.heap.size V V' → PshJ E Te base lo r b t vs f W xs x l V'
  | [], _, _, h, hb => Below.trans h (hb.mono (Below.size h))
  | [_], _, _, ⟨h, us, e, h1⟩, hb => ⟨h.trans (hb.mono h.size), us, e, E.weak (Elt.below h1 hb) fun _ hk => ⟨hk.1, Nat.lt_of_lt_of_le hk.2 hb.size⟩⟩
  | [_, _], _, _, ⟨h, ad, c, e, h1, h2, h3⟩, hb => ⟨h.below hb, ad, c, e, h1.below hb, h2.below hb h2.lt, h3⟩
  | _ :: _ :: _ :: _, _, _, ⟨h, ad, c, h1, h2, h3⟩, hb => ⟨h.below hb, ad, c, h1.below hb, h2.below hb h2.lt, h3⟩
theorem PshJ.two : ∀ {l : List Value} {V : World}, PshJ E Te base lo r b t vs f W xs x l V → Twb W V r b
  | [], _, h => Twb.of_below h
  | [_], _, ⟨h, _⟩ => Twb.of_below h
  | [_, _], _, ⟨h, _⟩ => h
  | _ :: _ :: _ :: _, _, ⟨h, _⟩ => h
theorem PshJ.early {V : World} {vl : List Value} (h : PshJ E Te base lo r b t vs f W xs x vl V) (hk : vl.length ≤ 1) : Below W.heap.size W V := by
  match vl, h with
  | [], h => exact h
  | [_], h => exact h.1
  | _ :: _ :: _, _ => simp at hk
def pRow {α : Type} (E : Elt α) (Te : TypeId) (W : World) (r : Option Nat) (b : Nat) (x : α) (hr : ∀ k, r = some k → k < W.heap.size) (hb : b < W.heap.size) : SGn (fun A B => Twb A B r b) :=
  ⟨fun w v => ∃ g, ∃ us : List Value, v = .slice (some ⟨g, 0, none⟩) 1 1 ∧ W.heap.size ≤ g ∧ w.heap[g]? = some (.cells us.toArray Te (0, 0)) ∧ E.R (fun k => W.heap.size ≤ k ∧ k < w.heap.size) w x us,
  fun _ _ _ ⟨g, us, h, h0, hc, hR⟩ hb => ⟨g, us, h, h0, (hb.block g (Array.getElem?_eq_some_iff.1 hc).1).trans hc, E.weak (Elt.below hR hb) fun _ hk => ⟨hk.1, Nat.lt_of_lt_of_le hk.2 hb.size⟩⟩,
  fun _ _ _ ⟨g, us, h, h0, hc, hR⟩ hk => ⟨g, us, h, h0, (hk.block g (Array.getElem?_eq_some_iff.1 hc).1 (fun e => by have := hr g e.symm; omega) (fun e => by omega)).trans hc, E.weak (E.keep hR fun k hh => hk.block k hh.2 (fun e => by have := hr k e.symm; omega) (fun e => by omega)) fun _ hh => ⟨hh.1, Nat.lt_of_lt_of_le hh.2 hk.size⟩⟩⟩
theorem PshJ.app {V V' : World} {v : Value} {v0 : Value} {ad : Option Addr} {c : Nat} (h : PshJ E Te base lo r b t vs f W xs x [v] V) (hB : BoxN W b t vs) (hO : OwnL (Elt.but E b) Te base lo V' (.slice ad (xs ++ [x]).length c) (xs ++ [x])) (hg : V.grownBy V' r) (hbr : r ≠ some b) (ho : Value.ownBlock (.slice ad (xs ++ [x]).length c) = r ∨ Value.ownBlock (.slice ad (xs ++ [x]).length c) = some V.heap.size) :
    PshJ E Te base lo r b t vs f W xs x [v0, .slice ad (xs ++ [x]).length c] V' :=
  ⟨(Twb.of_below h.1).row hg, ad, c, rfl, hO, (hB.below h.1 hB.lt).other hg hbr, by
    rcases ho with e | e
    · rw [e]; exact hbr
    · rw [e]; intro e2; injection e2 with e2; have := hB.lt; have := h.1.size; omega⟩
theorem PshJ.sto {V V' : World} {v s u v0 s0 : Value} {ad : Option Addr} {c : Nat} (h : PshJ E Te base lo r b t vs f W xs x [v, s] V) (hO : OwnL (Elt.but E b) Te base lo V (.slice ad (xs ++ [x]).length c) (xs ++ [x])) (hn : Value.ownBlock (.slice ad (xs ++ [x]).length c) ≠ some b) (hg : V.grownBy V' (some b)) (hB : BoxN V' b t (vs.set f (.slice ad (xs ++ [x]).length c))) :
    PshJ E Te base lo r b t vs f W xs x [v0, s0, u] V' :=
  ⟨h.1.box hg, ad, c, hO.butOther hg hn, hB, hn⟩
end
end Go.Proofs.Ytjbdkhddnblieaa
namespace Go.Proofs.Ytjbdkhddnblieaa
open Go.RowKit
section
variable {α : Type} {E : Elt α} {P : Program} {T Te : TypeId} {ops : Array Oper} {rest : List Oper} {o : Oper} {a : Act} {Q : Exit → Act → World → Prop} {w : World} {K : Act → World → Prop}
theorem run_buildZero (hP : LoP P T Te E.size) (w : World) : (Instr.buildSlice T 0 #[]).run P w = .ok (.slice (some ⟨w.heap.size, 0, none⟩) 0 0) (w.alloc (.cells #[] Te)) := by
  obtain ⟨i, z, hi, hz, hsz, hby, hzs⟩ := hP.all
  have e0 : Array.range 0 = #[] := by decide
  simp [Instr.buildSlice, run_underlying hP.hT, sizeOf, typeInfo, hi, newRow, Instr.fill, e0]
theorem ownL_zero (E : Elt α) (Te : TypeId) (w : World) : OwnL E Te w.heap.size w.heap.size (w.alloc (.cells #[] Te)) (.slice (some ⟨w.heap.size, 0, none⟩) 0 0) [] := by
  refine ⟨[], ⟨by simp, .inr ⟨w.heap.size, 0, #[], rfl, Nat.le_refl _, ?_, by simp, by unfold maxLen; omega, by simp, by simp⟩⟩, rfl⟩
  simp only [World.alloc, Array.getElem?_push_size]
theorem wp_buildZero (hP : LoP P T Te E.size) (ho : o.op = .buildSlice T 0 #[]) (h : ∀ w', Below w.heap.size w w' → OwnL E Te w.heap.size w.heap.size w' (.slice (some ⟨w.heap.size, 0, none⟩) 0 0) [] → K (a.put o.dst (.slice (some ⟨w.heap.size, 0, none⟩) 0 0)) w') : o.wp P a w K Q := by
  have hrun := run_buildZero (E := E) hP w
  unfold Oper.wp execOp
  simp only [ho, Sem.run_bind, Sem.run_pure, Result.andThen_ok, List.map_toArray, List.map_nil, hrun]
  exact h _ ((Below.refl _ _).alloc (Nat.le_refl _) _) (ownL_zero E Te w)
theorem wpList_buildZero (hP : LoP P T Te E.size) (ho : o.op = .buildSlice T 0 #[]) (hgd : Region.wanted o (yielded ops a.tmps) = true) (h : ∀ w', Below w.heap.size w w' → OwnL E Te w.heap.size w.heap.size w' (.slice (some ⟨w.heap.size, 0, none⟩) 0 0) [] → wpList P ops Q rest (a.put o.dst (.slice (some ⟨w.heap.size, 0, none⟩) 0 0)) w') : wpList P ops Q (o :: rest) a w :=
  BigFrame.wpList_want hgd fun _ hK => wp_buildZero hP ho fun w' h1 h2 => hK _ _ (h w' h1 h2)
theorem wpList_append_zeroL (hP : LoP P T Te E.size) {s x : Operand} (ho : o.op = .call { callee := .builtin .append, args := #[s, x], argTypes := #[T, T] }) (hgd : Region.wanted o (yielded ops a.tmps) = true)
    {base lo : Nat} {g : Addr} {ax : Option Addr} {cx nx : Nat} {ys : List α} {S : Nat → Prop} (hs : a.eval s = .slice (some g) 0 0) (hown : OwnL E Te base lo w (.slice (some g) 0 0) []) (hx : a.eval x = .slice ax nx cx) (hr : RdL E S w (.slice ax nx cx) ys)
    (hS : ∀ k, S k → lo ≤ k ∧ k < w.heap.size) (hbase : base ≤ w.heap.size)
    (h : ∀ ad k cap w', OwnL E Te base lo w' (.slice ad k cap) ys → Below w.heap.size w w' → wpList P ops Q rest (a.put o.dst (.slice ad k cap)) w') (hlen : ys.length ≤ 1073741824) : wpList P ops Q (o :: rest) a w :=
  BigFrame.wpList_want hgd fun _ hK => wp_append_zeroL hP ho hs hown hx hr hS hbase (fun ad k cap w' h1 h2 => hK _ _ (h ad k cap w' h1 h2)) hlen
end
end Go.Proofs.Ytjbdkhddnblieaa
namespace Go.Proofs.Ytjbdkhddnblieaa
open Go.RowKit Go.Shelf
theorem OwnL.num {Te : TypeId} {base lo lo' : Nat} {w : World} {v : Value} {xs : List Int} (h : OwnL Elt.int Te base lo w v xs) : OwnL Elt.int Te base lo' w v xs := by
  obtain ⟨vs, h1, h2⟩ := h
  have hf : ∀ {S S' : Nat → Prop} {l : List Int} {us : List Value}, Flat Elt.int S w l us → Flat Elt.int S' w l us := by
    intro S S' l
    induction l with
    | nil => intro us h; exact h
    | cons x l ih => rintro us ⟨a, b, e, h3, h4⟩; exact ⟨a, b, e, h3, ih h4⟩
  exact ⟨vs, h1, hf h2⟩
theorem OwnL.num2 {Te : TypeId} {base lo : Nat} {w w' : World} {v : Value} {xs : List Int} (h : OwnL Elt.int Te base lo w v xs) (hk : ∀ g, v.ownBlock = some g → w'.heap[g]? = w.heap[g]?) : OwnL Elt.int Te base lo w' v xs := by
  obtain ⟨vs, h1, h2⟩ := h
  have hf : ∀ {S S' : Nat → Prop} {l : List Int} {us : List Value}, Flat Elt.int S w l us → Flat Elt.int S' w' l us := by
    intro S S' l
    induction l with
    | nil => intro us h; exact h
    | cons x l ih => rintro us ⟨a, b, e, h3, h4⟩; exact ⟨a, b, e, h3, ih h4⟩
  refine ⟨vs, ⟨h1.1, h1.2.imp id fun ⟨g, cap, cur, hv, hb, hg, r⟩ => ⟨g, cap, cur, hv, hb, (hk g (by rw [hv]; rfl)).trans hg, r⟩⟩, hf h2⟩
set_option maxRecDepth 100000 in
set_option maxHeartbeats 2000000 in
theorem cloneI_any (w : World) {S : Nat → Prop} {a : Option Addr} {n c : Nat} {l : List Int} (hl : RdL Elt.int S w (.slice a n c) l) (hn : l.length ≤ 1000000) :
    Calls Try.prog 47 #[.slice a n c] w fun e w' => ∃ a' c', e = .returned (.slice a' l.length c') ∧ OwnL Elt.int 3 w.heap.size w.heap.size w' (.slice a' l.length c') l ∧ Below w.heap.size w w' := by
  have he := fun (w : World) (ad : Option Addr) (n c : Nat) => Lib.run_eql_slice_nil (P := Try.prog) w 23 3 ad n c 0 0 inP.hT
  obtain ⟨rfl, _, _⟩ := hl.len
  cases a with
  | none =>
    obtain rfl : l = [] := by
      obtain ⟨_, _, e, _, _, h⟩ := hl
      injection e with e1 e2 _
      rcases h with h | ⟨b, off, h, _⟩
      · exact h
      · rw [h] at e1; cases e1
    go_enter Try.func47, Try.ntmps47
    go_wp2
    go_ret
    exact ⟨_, _, rfl, OwnL.nil _ _ _ _ _, Below.refl _ _⟩
  | some p =>
    go_enter Try.func47, Try.ntmps47
    go_wp2_with (go_big_may; first
      | (refine wpList_buildZero (E := Elt.int) inP rfl rfl ?_; intro w1 hb1 hO1)
      | (refine wpList_append_zeroL (E := Elt.int) inP rfl rfl rfl (hO1.to (Nat.le_refl _) (Nat.zero_le _)) rfl ((hl.below hb1).fit.weak fun k hk => hk.2) (fun k hk => ⟨Nat.zero_le _, hk⟩) hb1.size ?_ (by omega); intro ad' k' cap' w2 hO2 hb2)
      | fail)
    go_ret
    obtain rfl := hO2.len
    exact ⟨_, _, rfl, hO2.num, hb1.trans (hb2.mono hb1.size)⟩
def smD (d : Dl) : Prop := d.writes.length ≤ 1000000 ∧ d.marks.length ≤ 1000000 ∧ ∀ x ∈ d.writes, x.key.length ≤ 1000000 ∧ x.val.length ≤ 1000000
def OwnD (B : Nat) (w : World) (v : Value) (d : Dl) : Prop := ∃ a c a2 c2 M, B ≤ M ∧ M ≤ w.heap.size ∧ v = .agg #[.slice a d.writes.length c, .slice a2 d.marks.length c2] ∧ OwnL Elt.wr 28 M M w (.slice a d.writes.length c) d.writes ∧ OwnL Elt.int 3 B B w (.slice a2 d.marks.length c2) d.marks ∧ ∀ g, Value.ownBlock (.slice a2 d.marks.length c2) = some g → g < M
theorem OwnD.rd {B : Nat} {w : World} {v : Value} {d : Dl} (h : OwnD B w v d) : RdDl (fun k => B ≤ k ∧ k < w.heap.size) w v d := by
  obtain ⟨a, c, a2, c2, M, h1, _, rfl, h2, h3, _⟩ := h
  exact ⟨a, c, a2, c2, rfl, h2.rdS fun k hk hl => ⟨by omega, hl⟩, h3.rdS fun k hk hl => ⟨by omega, hl⟩⟩
set_option maxRecDepth 100000 in
set_option maxHeartbeats 4000000 in
theorem dCopied_any (w : World) {S : Nat → Prop} {v : Value} {d : Dl} (h : RdDl S w v d) (hs : smD d) :
    Calls Try.prog 29 #[v] w fun e w' => ∃ v', e = .returned v' ∧ OwnD w.heap.size w' v' d ∧ Below w.heap.size w w' := by
  obtain ⟨a, c, a2, c2, rfl, hw, hm⟩ := h
  obtain ⟨hs1, hs2, hs3⟩ := hs
  obtain ⟨W0, hW, q, bn, bz, hsz⟩ := boxes2 w 25 25 [.slice a d.writes.length c, .slice a2 d.marks.length c2] [.slice none 0 0, .slice none 0 0]
  have eA : ∀ args w, (callFunc 31 args).run Try.prog w = .ok (.enter 31 args) w := enters_of Try.func31 (by kernel_rfl) rfl
  go_enter Try.func29, Try.ntmps29
  go_upto_region 1 with (fail)
  rw [show (w.alloc (.cells #[.slice a d.writes.length c, .slice a2 d.marks.length c2] 25)).alloc (.cells #[.slice none 0 0, .slice none 0 0] 25) = W0 from hW.symm]
  clear hW
  have b0 := bn.cell (i := 0) rfl
  have b1 := bn.cell (i := 1) rfl
  go_wp2_with fail
  refine (cloneI_any W0 (hm.below q) hs2).mono ?_
  rintro e w1 ⟨m1, mc, rfl, hM, hb1⟩
  have q1 := q.trans (hb1.mono q.size)
  have bn1 := bn.below hb1 bn.lt
  have bz1 := bz.below hb1 bz.lt
  clear b0 b1 bn bz
  have b0 := bn1.cell (i := 0) rfl
  go_upto_region 2 with (first | (refine wpList_boxNew (vs := [.slice none 0 0, .slice none 0 0]) (by kernel_rfl) rfl rfl ?_; intro w2 hb2 hB2) | (refine wpList_boxStore (us := [.slice none 0 0, .slice m1 d.marks.length mc]) (by kernel_rfl) rfl rfl rfl rfl rfl rfl hB2 rfl ?_; intro w3 hg3 hB3) | fail)
  have qb3 : Below w1.heap.size w1 w3 := hb2.grown hg3 hb2.size fun k hk => by injection hk with hk; omega
  have q3 := q1.trans (qb3.mono q1.size)
  have hs3x := hB3.lt
  clear b0
  have b0 := (bn1.below qb3 bn1.lt).cell (i := 0) rfl
  go_upto_region 3 with (fail)
  clear b0 hb2 hB2 hg3
  go_loopw [13] (fun iv wr => ∃ (k : Nat) (ad : Option Addr) (ko : Nat), iv = .int .i64 k ∧ k ≤ d.writes.length ∧ OwnL Elt.wr 28 (w1.heap.size + 1) (w1.heap.size + 1) wr (.slice ad (d.writes.take k).length ko) (d.writes.take k) ∧ BoxN wr w1.heap.size 25 [.slice ad (d.writes.take k).length ko, .slice m1 d.marks.length mc] ∧ Below w1.heap.size w1 wr)
    (fun i _ => d.writes.length - (intOf i).toNat)
  case atStart => exact ⟨0, none, 0, rfl, Nat.zero_le _, OwnL.nil _ _ _ _ _, hB3, qb3⟩
  case round =>
    clear hB3 qb3 q3
    obtain ⟨k, ad, ko, rfl, hkl, hO, hB, qr⟩ := hrel
    have q := q1.trans (qr.mono q1.size)
    rcases Nat.lt_or_ge k d.writes.length with hlt | hge
    · obtain ⟨b, off, KA, KC, VA, VC, rfl, hb, c0, c1, c2, c3, hk1, hk2, hw64⟩ := (hw.below q).wr k hlt
      obtain ⟨hx1, hx2⟩ := hs3 _ (List.getElem_mem hlt)
      have hsn := Lib.hid (show d.writes.take (k + 1) = d.writes.take k ++ [d.writes[k]] from List.take_succ_eq_append_getElem hlt)
      obtain ⟨x, ex⟩ : ∃ x, x = d.writes[k] := ⟨_, rfl⟩
      obtain ⟨xs, exs⟩ : ∃ xs, xs = d.writes.take k := ⟨_, rfl⟩
      have hxl : xs.length ≤ 1000000 := by rw [exs, List.length_take]; omega
      rw [← ex] at c0 c1 c2 c3 hk1 hk2 hw64 hx1 hx2 hsn
      rw [← exs] at hO hB hsn
      clear ex exs
      have hx : RdWr S wr (.agg #[.int .i64 x.table, .slice KA x.key.length KC, .bool x.gone, .slice VA x.val.length VC]) x := ⟨KA, KC, VA, VC, rfl, hk1, hk2, hw64⟩
      go_upto_region 5 with (first | (refine wpList_boxNew (vs := [.int .i64 0, .slice none 0 0, .bool false, .slice none 0 0]) (by kernel_rfl) rfl rfl ?_; intro wa hba hBa) | (refine wpList_boxStore (us := [.int .i64 x.table, .slice KA x.key.length KC, .bool x.gone, .slice VA x.val.length VC]) (by kernel_rfl) rfl rfl rfl rfl rfl rfl hBa rfl ?_; intro W hgw hXW) | fail)
      go_simp
      have hbw : Below wr.heap.size wr W := hba.grown hgw hba.size fun k hk => by injection hk with hk; omega
      have qW := qr.trans (hbw.mono qr.size)
      have hsW := hXW.lt
      have hBlt := hB.lt
      have hBW := hB.below hbw hB.lt
      have hrr : ∀ k, Value.ownBlock (.slice ad xs.length ko) = some k → w1.heap.size + 1 ≤ k ∧ k < wr.heap.size := fun k hk => hO.block_lt k hk
      have hrW : ∀ k, Value.ownBlock (.slice ad xs.length ko) = some k → k < W.heap.size := fun k hk => by have := hrr k hk; omega
      replace hO := (hO.below hbw).but (b := w1.heap.size) (fun k hk _ => by omega)
      replace hx := hx.below hbw
      have hlo : w1.heap.size + 1 ≤ W.heap.size := by omega
      have hxr : some wr.heap.size ≠ Value.ownBlock (.slice ad xs.length ko) := fun e => by have := hrr _ e.symm; omega
      have hxb : wr.heap.size ≠ w1.heap.size := by omega
      have hbr : Value.ownBlock (.slice ad xs.length ko) ≠ some w1.heap.size := fun e => by have := hrr _ e; omega
      have hb1 : w1.heap.size < w1.heap.size + 1 := by omega
      have hb2 : w1.heap.size < w1.heap.size + 1 := by omega
      clear c0 c1 c2 c3 hk1 hk2 hba hBa hgw hbw hB q
      refine wp_region_lnl (K := fun A B => Twb A B (Value.ownBlock (.slice ad xs.length ko)) (w1.heap.size)) (by kernel_rfl) (by kernel_rfl) [3, 5, 7] (by kernel_rfl) [lEq (.pointer (some ⟨w1.heap.size, 0 + 0, none⟩)), lEq (.slice ad xs.length ko), lEq (.agg #[.int .i64 x.table, .slice KA x.key.length KC, .bool x.gone, .slice VA x.val.length VC]), lAny, pRow Elt.wr 28 (W) (Value.ownBlock (.slice ad xs.length ko)) (w1.heap.size) x hrW hBW.lt, lAny, lEq (.pointer (some ⟨w1.heap.size, 0 + 0, none⟩)), lAny] (PshJ Elt.wr 28 ((w1.heap.size + 1)) ((w1.heap.size + 1)) (Value.ownBlock (.slice ad xs.length ko)) (w1.heap.size) 25 [.slice ad xs.length ko, .slice m1 d.marks.length mc] 0 (W) (xs) x) PshJ.below (show Below (W).heap.size (W) (W) from Below.refl _ _)
        ⟨?o0, ?o1, ?o2, ?o3, ?o4, ?o5, ?o6, ?o7, trivial⟩ ?fin
      case o0 =>
        refine LnOp.side rfl (by kernel_rfl) (fun A va w' k hF hT hk hJ hb hu hp hd => ?_)
        have e1 : A.eval (.tmp 3) = .pointer (some ⟨w1.heap.size, 0, none⟩) := hF 3 rfl
        exact wp_fieldN dlS rfl (e1) (by omega) ⟨_, rfl, rfl, Below.refl _ _⟩
      case o1 =>
        refine LnOp.side rfl (by kernel_rfl) (fun A va w' k hF hT hk hJ hb hu hp hd => ?_)
        have e1 : A.eval (.tmp 17) = .pointer (some ⟨w1.heap.size, 0 + 0, none⟩) := (hT 17 0 (by simp) rfl).trans (hd ⟨0, .data⟩ (by simp) rfl rfl)
        have hk1 : k ≤ 1 := hb 1 5 rfl (by kernel_rfl)
        have hJ0 := PshJ.early hJ (by simp only [List.length_map, List.length_take]; omega)
        exact wp_ld_slice (e := 28) rfl e1 (by kernel_rfl) ((hBW.below hJ0 hBW.lt).cell (i := 0) rfl) ⟨_, rfl, rfl, Below.refl _ _⟩
      case o2 =>
        refine LnOp.side rfl (by kernel_rfl) (fun A va w' k hF hT hk hJ hb hu hp hd => ?_)
        have e1 : A.eval (.tmp 5) = .pointer (some ⟨wr.heap.size, 0, none⟩) := hF 5 rfl
        have hX2 := (PshJ.two hJ).boxN hXW hxr hxb
        exact wp_load4 wrS rfl e1 (hX2.cell (i := 0) rfl) (hX2.cell (i := 1) rfl) (hX2.cell (i := 2) rfl) (hX2.cell (i := 3) rfl) ⟨_, rfl, rfl, Below.refl _ _⟩
      case o3 =>
        refine LnOp.line 0 rfl rfl (fun A va w' hF hT hJ hu hd => ?_)
        have e1 : A.eval (.tmp 19) = .agg #[.int .i64 x.table, .slice KA x.key.length KC, .bool x.gone, .slice VA x.val.length VC] := (hT 19 2 (by simp) rfl).trans (hd ⟨2, .data⟩ (by simp) rfl rfl)
        have hJ0 : Below (W).heap.size (W) w' := hJ
        refine wp_callFn rfl eA (by simp only [List.map_toArray, List.map_cons, List.map_nil, e1]) ((dAlone_any w' (hx.below hJ0) hx1 hx2).mono ?_)
        rintro e w2 ⟨v2, rfl, ⟨ka, kc, va2, vc, rfl, hk2, hv2, ht2⟩, hb2⟩
        have hR : Elt.wr.R (fun k => W.heap.size ≤ k ∧ k < w2.heap.size) w2 x (wrC x (.slice ka x.key.length kc) (.slice va2 x.val.length vc)) := ⟨_, _, rfl, hk2.weak fun k hk => ⟨Nat.le_trans hJ0.size hk.1, hk.2⟩, hv2.weak fun k hk => ⟨Nat.le_trans hJ0.size hk.1, hk.2⟩, ht2⟩
        exact ⟨_, rfl, _, rfl, ⟨hJ0.trans (hb2.mono hJ0.size), _, rfl, hR⟩, (Twb.refl (r := Value.ownBlock (.slice ad xs.length ko)) (b := w1.heap.size)).below hb2⟩
      case o4 =>
        refine LnOp.side rfl (by kernel_rfl) (fun A va w' k hF hT hk hJ hb hu hp hd => ?_)
        have x1 : A.eval (.tmp 20) = va 3 := hT 20 3 (by simp) rfl
        obtain rfl : k = 1 := by
          have h1 := hp ⟨3, .data⟩ (by simp) rfl 0 rfl
          have h2 := hb 1 5 rfl (by kernel_rfl)
          omega
        obtain ⟨hJ0, us, eus, hR⟩ := hJ
        have hb1 : Below w'.heap.size w' (w'.alloc (.cells us.toArray 28)) := (Below.refl _ _).alloc (Nat.le_refl _) _
        exact wp_buildOne wrP rfl x1 eus (Elt.len _ hR) (by decide) (by decide) ⟨_, rfl, ⟨_, us, rfl, hJ0.size, by simp only [World.alloc, Array.getElem?_push_size], Elt.weak _ (Elt.below hR hb1) fun k hk => ⟨hk.1, Nat.lt_of_lt_of_le hk.2 hb1.size⟩⟩, hb1⟩
      case o5 =>
        refine LnOp.line 1 rfl rfl (fun A va w' hF hT hJ hu hd => ?_)
        have e1 : A.eval (.tmp 18) = .slice ad xs.length ko := (hT 18 1 (by simp) rfl).trans (hd ⟨1, .data⟩ (by simp) rfl rfl)
        have x2 : A.eval (.tmp 21) = va 4 := hT 21 4 (by simp) rfl
        have y2 := hd ⟨4, .data⟩ (by simp) rfl rfl
        have hJ' := hJ
        obtain ⟨hJ0, _⟩ := hJ
        obtain ⟨g, us, eg, hg0, hgc, hgR⟩ : ∃ g, ∃ us : List Value, va 4 = .slice (some ⟨g, 0, none⟩) 1 1 ∧ (W).heap.size ≤ g ∧ w'.heap[g]? = some (.cells us.toArray 28 (0, 0)) ∧ Elt.R Elt.wr (fun k => (W).heap.size ≤ k ∧ k < w'.heap.size) w' x us := y2
        refine wp_appendL (E := Elt.but Elt.wr (w1.heap.size)) (ys := [x]) wrP rfl e1 (hO.below hJ0) (x2.trans eg) (fun j u hj => by rw [Addr.add_lit, World.cell?, hgc]; simpa using hj) (Flat.single (Elt.weak Elt.wr hgR fun k hk => ⟨hk, fun e => by have := hk.1; have := hBW.lt; omega⟩)) (fun k hk => ⟨Nat.le_trans hlo hk.1, hk.2, fun e => by have := hrW k e.symm; omega⟩) (Nat.le_trans hlo hJ0.size) (fun ad7 k7 cap7 w2 h2 hg h3 => ?_) (by simp; omega)
        obtain rfl : k7 = (xs ++ [x]).length := h2.len
        exact ⟨_, rfl, PshJ.app hJ' hBW h2 hg hbr h3, (Twb.refl (b := w1.heap.size)).row hg⟩
      case o6 =>
        refine LnOp.side rfl (by kernel_rfl) (fun A va w' k hF hT hk hJ hb hu hp hd => ?_)
        have e1 : A.eval (.tmp 3) = .pointer (some ⟨w1.heap.size, 0, none⟩) := hF 3 rfl
        exact wp_fieldN dlS rfl (e1) (by omega) ⟨_, rfl, rfl, Below.refl _ _⟩
      case o7 =>
        refine LnOp.line 2 rfl rfl (fun A va w' hF hT hJ hu hd => ?_)
        have e1 : A.eval (.tmp 23) = .pointer (some ⟨w1.heap.size, 0 + 0, none⟩) := (hT 23 6 (by simp) rfl).trans (hd ⟨6, .data⟩ (by simp) rfl rfl)
        have x2 : A.eval (.tmp 22) = va 5 := hT 22 5 (by simp) rfl
        have hJ' := hJ
        obtain ⟨hJ0, ad7, c7, es, hOs, hBs, hn7⟩ := hJ
        refine wp_boxSet (j := 0) rfl (by kernel_rfl) e1 (x2.trans es) rfl rfl hBs (by simp) (fun w2 hg hB2 => ?_)
        exact ⟨_, rfl, PshJ.sto hJ' hOs hn7 hg hB2, (Twb.refl (r := Value.ownBlock (.slice ad xs.length ko))).box hg⟩
      case fin =>
        intro vs1 W9 hJ hG
        obtain ⟨htw, ad9, c9, hO9, hB9, hn9⟩ := hJ
        have g0 : vs1 0 = .pointer (some ⟨w1.heap.size, 0 + 0, none⟩) := hG 0 (by decide) rfl
        have g1 : vs1 1 = .slice ad xs.length ko := hG 1 (by decide) rfl
        have g2 : vs1 2 = .agg #[.int .i64 x.table, .slice KA x.key.length KC, .bool x.gone, .slice VA x.val.length VC] := hG 2 (by decide) rfl
        have g6 : vs1 6 = .pointer (some ⟨w1.heap.size, 0 + 0, none⟩) := hG 6 (by decide) rfl
        clear hG
        simp only [putAll, g0, g1, g2, g6]
        clear g0 g1 g2 g6
        go_simp
        have q9 := htw.belowB (w0 := w1) qW (fun k hk => by have := hrr k hk; omega) (Nat.le_refl _)
        replace hO9 := hO9.unbut
        rw [← hsn.out] at hO9 hB9
        clear hBW hXW hO hx hsn htw hn9
        go_wp2_with fail
        go_roundw
        case rel => exact ⟨k + 1, ad9, c9, by go_num, by omega, hO9, hB9, q9⟩
        case measure => simp [intOf]; omega
    · obtain rfl : k = d.writes.length := by omega
      rw [List.take_length] at hO hB
      have b0 := hB.cell (i := 0) rfl
      have b1 := hB.cell (i := 1) rfl
      have bz2 := bz1.below qr bz1.lt
      have hM2 := hM.below qr
      go_wp2_with (first | (refine wpList_boxStore (us := [.slice ad d.writes.length ko, .slice m1 d.marks.length mc]) (by kernel_rfl) rfl rfl rfl rfl rfl rfl bz2 rfl ?_; intro wd hgd hBd) | fail)
      have d0 := hBd.cell (i := 0) rfl
      have d1 := hBd.cell (i := 1) rfl
      obtain ⟨fs, hu, _⟩ := dlS.hu
      refine bodyPost_ret (v := .agg #[.slice ad d.writes.length ko, .slice m1 d.marks.length mc]) (by simp [results, Try.results29, go_sem, loadVar, isAgg, run_underlying hu, run_sizeOf' dlS.hs, loadCellsFrom, Addr.add, d0, d1]) rfl ?_
      have hz1 := hb1.size
      have hzd := hgd.size
      have hB2 := hB.lt
      exact ⟨_, rfl, ⟨ad, ko, m1, mc, w1.heap.size + 1, by omega, by omega, rfl, hO.other hgd (by omega) (by omega), (hM2.other hgd (by omega) (by omega)).to (by omega) (by omega), fun g hg => by have := (hM.block_lt g hg).2; omega⟩, q.grown hgd q.size fun k e => by injection e with e; omega⟩
end Go.Proofs.Ytjbdkhddnblieaa
namespace Go.Proofs.Ytjbdkhddnblieaa
open Go.RowKit
theorem mayW_b (x : Wr) (hg : x.gone = true → x.val.length = 0) : (decide (x.table < (0 : Int)) || decide ((4 : Int) ≤ x.table) || decide ((16 : Int) < (x.key.length : Int)) || decide ((32 : Int) < (x.val.length : Int))) = (!decide (mayW x)) := by
  have h2 : mayW x ↔ (¬ x.table < (0 : Int) ∧ ¬ (4 : Int) ≤ x.table ∧ ¬ (16 : Int) < (x.key.length : Int) ∧ ¬ (32 : Int) < (x.val.length : Int)) := by
    unfold mayW
    constructor
    · intro h; omega
    · intro h; exact ⟨by omega, by omega, by omega, by omega, fun h2 => List.eq_nil_of_length_eq_zero (hg h2)⟩
  rw [Bool.eq_iff_iff]
  simp only [Bool.or_eq_true, decide_eq_true_eq, Bool.not_eq_true', decide_eq_false_iff_not, h2]
  omega
set_option maxRecDepth 100000 in
set_option maxHeartbeats 4000000 in
theorem wrong_any (w : World) {S : Nat → Prop} {v : Value} {x : Wr} (hx : RdWr S w v x) :
    Calls Try.prog 30 #[v] w fun e w' => e = .returned (.bool (!decide (mayW x))) ∧ Below w.heap.size w w' := by
  obtain ⟨a, c, a2, c2, rfl, hk1, hk2, ht⟩ := hx
  obtain ⟨_, hc1, hm1⟩ := hk1.len
  obtain ⟨_, hc2, hm2⟩ := hk2.len
  unfold maxLen at hm1 hm2
  unfold W64 at ht
  cases hg : x.gone with
  | true =>
    by_cases hv : 0 < x.val.length
    · skip
      have hk := Lib.hid (show (!decide (mayW x)) = true from by rw [decide_eq_false (fun h => by have := h.2.2.2.2 hg; rw [this] at hv; simp at hv)]; rfl)
      go_enter Try.func30, Try.ntmps30
      go_wp2
      go_ret
      exact ⟨by rw [hk.out]; rfl, (Below.refl _ _).alloc (Nat.le_refl _) _⟩
    · have hv0 := Lib.hid (show x.val = [] from List.eq_nil_of_length_eq_zero (by omega))
      by_cases h1 : 0 ≤ x.table
      · skip
        by_cases h2 : x.table < 4
        · skip
          by_cases h3 : (x.key.length : Int) ≤ 16
          · skip
            by_cases h4 : (x.val.length : Int) ≤ 32
            · skip
              have hk := Lib.hid (mayW_b x (fun _ => by rw [hv0.out]; rfl))
              go_enter Try.func30, Try.ntmps30
              go_wp2
              go_ret
              exact ⟨by rw [← hk.out]; rfl, (Below.refl _ _).alloc (Nat.le_refl _) _⟩
            · skip
              omega
          · skip
            have hk := Lib.hid (show (!decide (mayW x)) = true from by rw [decide_eq_false (fun h => h3 (by have := h.2.2.1; omega))]; rfl)
            go_enter Try.func30, Try.ntmps30
            go_wp2
            go_ret
            exact ⟨by rw [hk.out]; rfl, (Below.refl _ _).alloc (Nat.le_refl _) _⟩
        · skip
          have hk := Lib.hid (show (!decide (mayW x)) = true from by rw [decide_eq_false (fun h => h2 (by have := h.2.1; omega))]; rfl)
          go_enter Try.func30, Try.ntmps30
          go_wp2
          go_ret
          exact ⟨by rw [hk.out]; rfl, (Below.refl _ _).alloc (Nat.le_refl _) _⟩
      · skip
        have hk := Lib.hid (show (!decide (mayW x)) = true from by rw [decide_eq_false (fun h => h1 (h.1))]; rfl)
        go_enter Try.func30, Try.ntmps30
        go_wp2
        go_ret
        exact ⟨by rw [hk.out]; rfl, (Below.refl _ _).alloc (Nat.le_refl _) _⟩
  | false =>
    by_cases h1 : 0 ≤ x.table
    · skip
      by_cases h2 : x.table < 4
      · skip
        by_cases h3 : (x.key.length : Int) ≤ 16
        · skip
          by_cases h4 : (x.val.length : Int) ≤ 32
          · skip
            have hk := Lib.hid (mayW_b x (fun h => by rw [hg] at h; cases h))
            go_enter Try.func30, Try.ntmps30
            go_wp2
            go_ret
            exact ⟨by rw [← hk.out]; rfl, (Below.refl _ _).alloc (Nat.le_refl _) _⟩
          · skip
            have hm := Lib.hid (mayW_b x (fun h => by rw [hg] at h; cases h))
            have hk := Lib.hid (show (!decide (mayW x)) = true from by rw [decide_eq_false (fun h => h4 (by have := h.2.2.2.1; omega))]; rfl)
            go_enter Try.func30, Try.ntmps30
            go_wp2
            go_ret
            exact ⟨by first | (rw [hk.out]; rfl) | (rw [← hm.out]; rfl), (Below.refl _ _).alloc (Nat.le_refl _) _⟩
        · skip
          have hk := Lib.hid (show (!decide (mayW x)) = true from by rw [decide_eq_false (fun h => h3 (by have := h.2.2.1; omega))]; rfl)
          go_enter Try.func30, Try.ntmps30
          go_wp2
          go_ret
          exact ⟨by rw [hk.out]; rfl, (Below.refl _ _).alloc (Nat.le_refl _) _⟩
      · skip
        have hk := Lib.hid (show (!decide (mayW x)) = true from by rw [decide_eq_false (fun h => h2 (by have := h.2.1; omega))]; rfl)
        go_enter Try.func30, Try.ntmps30
        go_wp2
        go_ret
        exact ⟨by rw [hk.out]; rfl, (Below.refl _ _).alloc (Nat.le_refl _) _⟩
    · skip
      have hk := Lib.hid (show (!decide (mayW x)) = true from by rw [decide_eq_false (fun h => h1 (h.1))]; rfl)
      go_enter Try.func30, Try.ntmps30
      go_wp2
      go_ret
      exact ⟨by rw [hk.out]; rfl, (Below.refl _ _).alloc (Nat.le_refl _) _⟩
end Go.Proofs.Ytjbdkhddnblieaa
namespace Go.Proofs.Ytjbdkhddnblieaa
open Go.RowKit Go.Shelf
set_option maxRecDepth 100000 in
set_option maxHeartbeats 4000000 in
theorem indexWr_any (w : World) {S : Nat → Prop} {a : Option Addr} {n c : Nat} {l : List Wr} (hl : RdL Elt.wr S w (.slice a n c) l) :
    Calls Try.prog 49 #[.slice a n c, .func (.func 30) #[] #[]] w fun e w' => ∃ i : Int, e = .returned (.int .i64 i) ∧ decide (0 ≤ i) = (!decide (∀ x ∈ l, mayW x)) ∧ Below w.heap.size w w' := by
  obtain ⟨rfl, hnc, hcm⟩ := hl.len
  have hlm : l.length ≤ 9223372036854775807 := by unfold maxLen at hcm; omega
  have hEE := enters_of Try.func30 (by kernel_rfl) rfl
  have q := Below.refl w.heap.size w
  go_enter Try.func49, Try.ntmps49
  go_upto_region 2 with (fail)
  go_loopw [5, 8] (fun _ iv wr => ∃ (k : Nat), iv = .int .i64 k ∧ k ≤ l.length ∧ (∀ x ∈ l.take k, mayW x) ∧ Below w.heap.size w wr)
    (fun _ i _ => l.length - (intOf i).toNat)
  case atStart => exact ⟨0, rfl, Nat.zero_le _, by simp, q⟩
  case round =>
    clear q
    obtain ⟨k, rfl, hkl, hall, q⟩ := hrel
    rcases Nat.lt_or_ge k l.length with hlt | hge
    · obtain ⟨b, off, A, C, A2, C2, rfl, hb, c0, c1, c2, c3, hk1, hk2, hw64⟩ := (hl.below q).wr k hlt
      have hw : RdWr S wr (.agg #[.int .i64 l[k].table, .slice A l[k].key.length C, .bool l[k].gone, .slice A2 l[k].val.length C2]) l[k] := ⟨A, C, A2, C2, rfl, hk1, hk2, hw64⟩
      go_upto_region 4 with (fail)
      go_wp2_with fail
      refine (wrong_any wr hw).mono ?_
      rintro e w1 ⟨rfl, hb1⟩
      replace q := q.trans (hb1.mono q.size)
      clear c0 c1 c2 c3 hk1 hk2 hw
      by_cases hm : mayW l[k]
      · have hall2 : ∀ x ∈ l.take (k + 1), mayW x := fun x hx => by
          rw [List.take_succ_eq_append_getElem hlt] at hx
          rcases List.mem_append.1 hx with h | h
          · exact hall x h
          · simp at h; rw [h]; exact hm
        have d1 : decide (mayW l[k]) = true := decide_eq_true hm
        clear hall hm
        go_wp2_with fail
        go_roundw
        case rel => exact ⟨k + 1, by go_num, by omega, hall2, q⟩
        case measure => simp [intOf]; omega
      · have d1 : decide (mayW l[k]) = false := decide_eq_false hm
        have hno := Lib.hid (show decide (∀ x ∈ l, mayW x) = false from decide_eq_false fun h => hm (h _ (List.getElem_mem hlt)))
        clear hall hm
        go_wp2_with fail
        go_ret
        exact ⟨_, rfl, by rw [hno.out]; simp, q⟩
    · obtain rfl : k = l.length := by omega
      rw [List.take_length] at hall
      have hno := Lib.hid (show decide (∀ x ∈ l, mayW x) = true from decide_eq_true hall)
      clear hall
      go_wp2_with fail
      go_ret
      exact ⟨_, rfl, by rw [hno.out]; simp, q⟩
set_option maxRecDepth 100000 in
set_option maxHeartbeats 4000000 in
theorem contains_any (w : World) {S : Nat → Prop} {a : Option Addr} {n c : Nat} {l : List Wr} (hl : RdL Elt.wr S w (.slice a n c) l) :
    Calls Try.prog 35 #[.slice a n c, .func (.func 30) #[] #[]] w fun e w' => e = .returned (.bool (!decide (∀ x ∈ l, mayW x))) ∧ Below w.heap.size w w' := by
  go_enter Try.func35, Try.ntmps35
  go_wp2_with fail
  refine (indexWr_any w hl).mono ?_
  rintro e w1 ⟨i, rfl, hi, hb⟩
  replace hi := Lib.hid hi
  go_wp2_with fail
  go_ret
  exact ⟨by rw [← hi.out]; rfl, hb⟩
end Go.Proofs.Ytjbdkhddnblieaa
namespace Go.Proofs.Ytjbdkhddnblieaa
open Go.RowKit Go.Shelf
def DuoV (W : World) (b : Nat) (t : TypeId) (u v : Value) : Prop := W.heap[b]? = some (.cells #[u, v] t (0, 0))
section
variable {W W' : World} {b : Nat} {t : TypeId} {u v : Value}
theorem DuoV.new (W : World) (t : TypeId) (u v : Value) : DuoV (W.alloc (.cells #[u, v] t)) W.heap.size t u v := by unfold DuoV; simp only [World.alloc, Array.getElem?_push_size]
theorem DuoV.lt (h : DuoV W b t u v) : b < W.heap.size := (Array.getElem?_eq_some_iff.1 h).1
theorem DuoV.cell0 (h : DuoV W b t u v) : W.cell? ⟨b, 0, none⟩ = some u := by simp [World.cell?, show W.heap[b]? = _ from h]
theorem DuoV.cell1 (h : DuoV W b t u v) : W.cell? ⟨b, 1, none⟩ = some v := by simp [World.cell?, show W.heap[b]? = _ from h]
theorem DuoV.below {n : Nat} (h : DuoV W b t u v) (hb : Below n W W') (hn : b < n) : DuoV W' b t u v := (hb.block b hn).trans h
end
set_option maxRecDepth 100000 in
set_option maxHeartbeats 4000000 in
theorem dCheck_any (w : World) {S : Nat → Prop} {v : Value} {d : Dl} (h : RdDl S w v d) :
    Calls Try.prog 17 #[v] w fun e w' => e = .returned (.bool (decide (okD d))) ∧ Below w.heap.size w w' := by
  obtain ⟨a, c, a2, c2, rfl, hw, hm⟩ := h
  obtain ⟨_, hc1, hm1⟩ := hw.len
  obtain ⟨_, hc2, hm2⟩ := hm.len
  have hl1 : d.writes.length ≤ 9223372036854775807 := by unfold maxLen at hm1; omega
  have hl2 : d.marks.length ≤ 9223372036854775807 := by unfold maxLen at hm2; omega
  obtain ⟨W, hW⟩ : ∃ W, W = w.alloc (.cells #[.slice a d.writes.length c, .slice a2 d.marks.length c2] 25) := ⟨_, rfl⟩
  have q : Below w.heap.size w W := by rw [hW]; exact (Below.refl _ _).alloc (Nat.le_refl _) _
  have hB : DuoV W w.heap.size 25 (.slice a d.writes.length c) (.slice a2 d.marks.length c2) := by rw [hW]; exact DuoV.new _ _ _ _
  go_enter Try.func17, Try.ntmps17
  go_upto_region 1 with (fail)
  rw [← hW]
  clear hW
  have b0 := hB.cell0
  have b1 := hB.cell1
  rcases Nat.lt_or_ge 20 d.writes.length with h1 | h1
  · have d1 : (20 < d.writes.length) = True := eq_true h1
    have HK := Lib.hid (show decide (okD d) = false from decide_eq_false fun h => by have := h.1; omega)
    go_wp2_with fail
    go_ret
    exact ⟨by rw [HK.out]; rfl, q⟩
  · have d1 : (20 < d.writes.length) = False := eq_false (by omega)
    rcases Nat.lt_or_ge 4 d.marks.length with h2 | h2
    · have d2 : (4 < d.marks.length) = True := eq_true h2
      have HK := Lib.hid (show decide (okD d) = false from decide_eq_false fun h => by have := h.2.1; omega)
      go_wp2_with fail
      go_ret
      exact ⟨by rw [HK.out]; rfl, q⟩
    · have d2 : (4 < d.marks.length) = False := eq_false (by omega)
      go_wp2_with fail
      refine (contains_any W (hw.below q)).mono ?_
      rintro e w1 ⟨rfl, hb1⟩
      replace q := q.trans (hb1.mono q.size)
      replace hB := hB.below hb1 hB.lt
      clear b0 b1 hb1
      have b0 := hB.cell0
      have b1 := hB.cell1
      by_cases h3 : ∀ x ∈ d.writes, mayW x
      · have d3 : decide (∀ x ∈ d.writes, mayW x) = true := decide_eq_true h3
        go_upto_region 5 with (fail)
        go_loopw [3, 24] (fun lv iv wr => ∃ (k : Nat) (z : Int), iv = .int .i64 k ∧ lv = .int .i64 z ∧ k ≤ d.marks.length ∧ (k = 0 → z = 0) ∧ (∀ h : k - 1 < d.marks.length, 0 < k → z = d.marks[k - 1]) ∧ okM d.writes.length 0 (d.marks.take k) ∧ W64 z ∧ Below w.heap.size w wr ∧ DuoV wr w.heap.size 25 (.slice a d.writes.length c) (.slice a2 d.marks.length c2))
          (fun _ i _ => d.marks.length - (intOf i).toNat)
        case atStart => exact ⟨0, 0, rfl, rfl, Nat.zero_le _, fun _ => rfl, fun _ h => absurd h (Nat.lt_irrefl _), trivial, ⟨by omega, by omega⟩, q, hB⟩
        case round =>
          clear q hB b0 b1
          obtain ⟨k, z, rfl, rfl, hkl, hz0, hz1, hok, hzw, q, hB⟩ := hrel
          have b0 := hB.cell0
          have b1 := hB.cell1
          rcases Nat.lt_or_ge k d.marks.length with hlt | hge
          · obtain ⟨b, off, rfl, hb, c0, hi⟩ := (hm.below q).num k hlt
            have hcur : (if k = 0 then (0 : Int) else d.marks[k - 1]'(by omega)) = z := by
              by_cases h0 : k = 0
              · rw [if_pos h0, hz0 h0]
              · rw [if_neg h0, hz1 (by omega) (by omega)]
            obtain ⟨m, hm0⟩ : ∃ m, m = d.marks[k] := ⟨_, rfl⟩
            have hts := Lib.hid (okM_take_succ (n := d.writes.length) (l := 0) hlt)
            rw [← hm0] at c0 hi
            unfold W64 at hi hzw
            by_cases h4 : m < z
            · have d4 : decide (m < z) = true := decide_eq_true h4
              have HK := Lib.hid (show decide (okD d) = false from decide_eq_false fun h => by
                have h5 := (hts.out.1 (okM_take h.2.2.2 _)).2.1
                rw [hcur, ← hm0] at h5
                omega)
              clear hz0 hz1 hok hts hcur hm0 h4
              go_wp2_with fail
              go_ret
              exact ⟨by rw [HK.out]; rfl, q⟩
            · have d4 : decide (m < z) = false := decide_eq_false h4
              by_cases h5 : (d.writes.length : Int) < m
              · have d5 : decide ((d.writes.length : Int) < m) = true := decide_eq_true h5
                have HK := Lib.hid (show decide (okD d) = false from decide_eq_false fun h => by
                  have h5 := (hts.out.1 (okM_take h.2.2.2 _)).2.2
                  rw [← hm0] at h5
                  omega)
                clear hz0 hz1 hok hts hcur hm0 h4
                go_wp2_with fail
                go_ret
                exact ⟨by rw [HK.out]; rfl, q⟩
              · have d5 : decide ((d.writes.length : Int) < m) = false := decide_eq_false h5
                have hok2 : okM d.writes.length 0 (d.marks.take (k + 1)) := hts.out.2 ⟨hok, by rw [hcur, ← hm0]; omega, by rw [← hm0]; omega⟩
                have hmh := Lib.hid hm0
                clear hz0 hz1 hok hts hcur h4 h5 hm0
                go_wp2_with fail
                go_roundw
                case rel => exact ⟨k + 1, m, by go_num, rfl, by omega, fun h => by omega, fun _ _ => hmh.out, hok2, ⟨hi.1, hi.2⟩, q, hB⟩
                case measure => simp [intOf]; omega
          · obtain rfl : k = d.marks.length := by omega
            rw [List.take_length] at hok
            have HK := Lib.hid (show decide (okD d) = true from decide_eq_true ⟨h1, h2, h3, hok⟩)
            clear hz0 hz1 hok
            go_wp2_with fail
            go_ret
            exact ⟨by rw [HK.out]; rfl, q⟩
      · have d3 : decide (∀ x ∈ d.writes, mayW x) = false := decide_eq_false h3
        have HK := Lib.hid (show decide (okD d) = false from decide_eq_false fun h => h3 h.2.2.1)
        go_wp2_with fail
        go_ret
        exact ⟨by rw [HK.out]; rfl, q⟩
end Go.Proofs.Ytjbdkhddnblieaa
namespace Go.Proofs.Ytjbdkhddnblieaa
open Go.RowKit Go.Shelf
def shP (l : List Pq) : Prop := l.length ≤ 100 ∧ ∀ x ∈ l, x.key.length ≤ 100 ∧ x.val.length ≤ 100
instance (l : List Pq) : Decidable (shP l) := by unfold shP; exact inferInstance
def fewD (d : Dl) : Prop := d.writes.length ≤ 30 ∧ d.marks.length ≤ 30 ∧ ∀ x ∈ d.writes, x.key.length ≤ 100 ∧ x.val.length ≤ 100
instance (d : Dl) : Decidable (fewD d) := by unfold fewD; exact inferInstance
theorem all_succ {α : Type} {P : α → Prop} {l : List α} {k : Nat} (hlt : k < l.length) (h : ∀ x ∈ l.take k, P x) (hk : P l[k]) : ∀ x ∈ l.take (k + 1), P x := fun x hx => by
  rw [List.take_succ_eq_append_getElem hlt] at hx
  rcases List.mem_append.1 hx with hx | hx
  · exact h x hx
  · simp at hx; rw [hx]; exact hk
set_option maxRecDepth 100000 in
set_option maxHeartbeats 4000000 in
theorem short_any (w : World) {S : Nat → Prop} {a : Option Addr} {n c : Nat} {l : List Pq} (hl : RdL Elt.pq S w (.slice a n c) l) :
    Calls Try.prog 19 #[.slice a n c] w fun e w' => e = .returned (.bool (decide (shP l))) ∧ Below w.heap.size w w' := by
  obtain ⟨rfl, hnc, hcm⟩ := hl.len
  have hlm : l.length ≤ 9223372036854775807 := by unfold maxLen at hcm; omega
  have q := Below.refl w.heap.size w
  rcases Nat.lt_or_ge 100 l.length with h1 | h1
  · have d1 : (100 < l.length) = True := eq_true h1
    have HK := Lib.hid (show decide (shP l) = false from decide_eq_false fun h => by have := h.1; omega)
    go_enter Try.func19, Try.ntmps19
    go_wp2_with fail
    go_ret
    exact ⟨by rw [HK.out]; rfl, q⟩
  have d1 : (100 < l.length) = False := eq_false (by omega)
  go_enter Try.func19, Try.ntmps19
  go_upto_region 4 with (fail)
  go_loopw [3] (fun iv wr => ∃ (k : Nat), iv = .int .i64 k ∧ k ≤ l.length ∧ (∀ x ∈ l.take k, x.key.length ≤ 100 ∧ x.val.length ≤ 100) ∧ Below w.heap.size w wr)
    (fun i _ => l.length - (intOf i).toNat)
  case atStart => exact ⟨0, rfl, Nat.zero_le _, by simp, q⟩
  case round =>
    clear q
    obtain ⟨k, rfl, hkl, hall, q⟩ := hrel
    rcases Nat.lt_or_ge k l.length with hlt | hge
    · obtain ⟨b, off, A, C, A2, C2, rfl, hb, c0, c1, hk1, hk2⟩ := (hl.below q).pq k hlt
      by_cases h2 : 100 < l[k].key.length
      · have d2 : (100 < l[k].key.length) = True := eq_true h2
        have hno := Lib.hid (show decide (shP l) = false from decide_eq_false fun h => by have := (h.2 _ (List.getElem_mem hlt)).1; omega)
        clear hall
        go_wp2_with fail
        go_ret
        exact ⟨by rw [hno.out]; rfl, q⟩
      · have d2 : (100 < l[k].key.length) = False := eq_false h2
        by_cases h3 : 100 < l[k].val.length
        · have d3 : (100 < l[k].val.length) = True := eq_true h3
          have hno := Lib.hid (show decide (shP l) = false from decide_eq_false fun h => by have := (h.2 _ (List.getElem_mem hlt)).2; omega)
          clear hall
          go_wp2_with fail
          go_ret
          exact ⟨by rw [hno.out]; rfl, q⟩
        · have d3 : (100 < l[k].val.length) = False := eq_false h3
          have hall2 := Lib.hid (all_succ hlt hall ⟨by omega, by omega⟩)
          clear hall
          go_wp2_with fail
          go_roundw
          case rel => exact ⟨k + 1, by go_num, by omega, hall2.out, q⟩
          case measure => simp [intOf]; omega
    · obtain rfl : k = l.length := by omega
      rw [List.take_length] at hall
      have hno := Lib.hid (show decide (shP l) = true from decide_eq_true ⟨h1, hall⟩)
      clear hall
      go_wp2_with fail
      go_ret
      exact ⟨by rw [hno.out]; rfl, q⟩
set_option maxRecDepth 100000 in
set_option maxHeartbeats 4000000 in
theorem few_any (w : World) {S : Nat → Prop} {v : Value} {d : Dl} (h : RdDl S w v d) :
    Calls Try.prog 9 #[v] w fun e w' => e = .returned (.bool (decide (fewD d))) ∧ Below w.heap.size w w' := by
  obtain ⟨a, c, a2, c2, rfl, hw, hm⟩ := h
  obtain ⟨_, hc1, hm1⟩ := hw.len
  obtain ⟨_, hc2, hm2⟩ := hm.len
  have hl1 : d.writes.length ≤ 9223372036854775807 := by unfold maxLen at hm1; omega
  have hl2 : d.marks.length ≤ 9223372036854775807 := by unfold maxLen at hm2; omega
  obtain ⟨W, hW⟩ : ∃ W, W = w.alloc (.cells #[.slice a d.writes.length c, .slice a2 d.marks.length c2] 25) := ⟨_, rfl⟩
  have q : Below w.heap.size w W := by rw [hW]; exact (Below.refl _ _).alloc (Nat.le_refl _) _
  have hB : DuoV W w.heap.size 25 (.slice a d.writes.length c) (.slice a2 d.marks.length c2) := by rw [hW]; exact DuoV.new _ _ _ _
  go_enter Try.func9, Try.ntmps9
  go_upto_region 1 with (fail)
  rw [← hW]
  clear hW
  have b0 := hB.cell0
  have b1 := hB.cell1
  rcases Nat.lt_or_ge 30 d.writes.length with h1 | h1
  · have d1 : (30 < d.writes.length) = True := eq_true h1
    have HK := Lib.hid (show decide (fewD d) = false from decide_eq_false fun h => by have := h.1; omega)
    go_wp2_with fail
    go_ret
    exact ⟨by rw [HK.out]; rfl, q⟩
  have d1 : (30 < d.writes.length) = False := eq_false (by omega)
  rcases Nat.lt_or_ge 30 d.marks.length with h2 | h2
  · have d2 : (30 < d.marks.length) = True := eq_true h2
    have HK := Lib.hid (show decide (fewD d) = false from decide_eq_false fun h => by have := h.2.1; omega)
    go_wp2_with fail
    go_ret
    exact ⟨by rw [HK.out]; rfl, q⟩
  have d2 : (30 < d.marks.length) = False := eq_false (by omega)
  go_upto_region 4 with (fail)
  go_loopw [3] (fun iv wr => ∃ (k : Nat), iv = .int .i64 k ∧ k ≤ d.writes.length ∧ (∀ x ∈ d.writes.take k, x.key.length ≤ 100 ∧ x.val.length ≤ 100) ∧ Below w.heap.size w wr ∧ DuoV wr w.heap.size 25 (.slice a d.writes.length c) (.slice a2 d.marks.length c2))
    (fun i _ => d.writes.length - (intOf i).toNat)
  case atStart => exact ⟨0, rfl, Nat.zero_le _, by simp, q, hB⟩
  case round =>
    clear q hB b0 b1
    obtain ⟨k, rfl, hkl, hall, q, hB⟩ := hrel
    have b0 := hB.cell0
    have b1 := hB.cell1
    rcases Nat.lt_or_ge k d.writes.length with hlt | hge
    · obtain ⟨b, off, A, C, A2, C2, rfl, hb, c0, c1, c2, c3, hk1, hk2, hw64⟩ := (hw.below q).wr k hlt
      by_cases h3 : 100 < d.writes[k].key.length
      · have d3 : (100 < d.writes[k].key.length) = True := eq_true h3
        have hno := Lib.hid (show decide (fewD d) = false from decide_eq_false fun h => by have := (h.2.2 _ (List.getElem_mem hlt)).1; omega)
        clear hall
        go_wp2_with fail
        go_ret
        exact ⟨by rw [hno.out]; rfl, q⟩
      · have d3 : (100 < d.writes[k].key.length) = False := eq_false h3
        by_cases h4 : 100 < d.writes[k].val.length
        · have d4 : (100 < d.writes[k].val.length) = True := eq_true h4
          have hno := Lib.hid (show decide (fewD d) = false from decide_eq_false fun h => by have := (h.2.2 _ (List.getElem_mem hlt)).2; omega)
          clear hall
          go_wp2_with fail
          go_ret
          exact ⟨by rw [hno.out]; rfl, q⟩
        · have d4 : (100 < d.writes[k].val.length) = False := eq_false h4
          have hall2 := Lib.hid (all_succ hlt hall ⟨by omega, by omega⟩)
          clear hall
          go_wp2_with fail
          go_roundw
          case rel => exact ⟨k + 1, by go_num, by omega, hall2.out, q, hB⟩
          case measure => simp [intOf]; omega
    · obtain rfl : k = d.writes.length := by omega
      rw [List.take_length] at hall
      have hno := Lib.hid (show decide (fewD d) = true from decide_eq_true ⟨h1, h2, hall⟩)
      clear hall
      go_wp2_with fail
      go_ret
      exact ⟨by rw [hno.out]; rfl, q⟩
end Go.Proofs.Ytjbdkhddnblieaa
namespace Go.Proofs.Ytjbdkhddnblieaa
open Go.RowKit Go.Shelf
def lenOf : Value → Nat
  | .slice _ n _ => n
  | _ => 0
def WsEnd (w : World) (l : List Wr) (e : Ending) (w' : World) : Prop := ∃ a c, e = .returned (.slice a l.length c) ∧ OwnL Elt.wr 28 w.heap.size w.heap.size w' (.slice a l.length c) l ∧ Below w.heap.size w w'
end Go.Proofs.Ytjbdkhddnblieaa
