/-
  TEXTS OF ONE PROOF, merged: SpK, SpJ, RpA, Qui, DltZ, RpB, DltC, DltS.
-/
import Derived.BigQuiet
import Derived.Test.YtmcleffpjfeegaaRk5
namespace Go.Proofs.Ytmcleffpjfeegaa
open Go.RowKit Go.Shelf
section
variable {α : Type} {E : Elt α} {P : Program} {T Te : TypeId} {o : Oper} {a : Act} {Q : Exit → Act → World → Prop} {w : World} {K : Act → World → Prop}
theorem run_append_zeroB (hP : LoP P T Te E.size) (w : World) {base lo : Nat} (ty : TypeId) {g : Addr} {ax : Option Addr} {cx nx : Nat} {ys : List α} {S : Nat → Prop} (hown : OwnL E Te base lo w (.slice (some g) 0 0) []) (hx : RdL E S w (.slice ax nx cx) ys)
    (hS : ∀ k, S k → lo ≤ k ∧ k < w.heap.size) (hbase : base ≤ w.heap.size) (hlen : ys.length ≤ 1073741824) :
    ∃ v' w', (Builtin.append_ #[T, T] ty #[.slice (some g) 0 0, .slice ax nx cx]).run P w = .ok v' w' ∧ OwnL E Te base lo w' v' ys ∧ Below w.heap.size w w' ∧ (v'.ownBlock = Value.ownBlock (.slice (some g) 0 0) ∨ v'.ownBlock = some w.heap.size) := by
  obtain ⟨i, z, hi, hz, hsz, hby, hzs⟩ := hP.all
  obtain ⟨rfl, _, _⟩ := hx.len
  by_cases h0 : ys = []
  · subst h0
    have hsrc : Src P i.size T (.slice ax 0 cx) 0 [] w := by
      cases ax with
      | none => exact Src.ofNil w hP.hT cx
      | some p => exact Src.ofSlice w hP.hT p 0 cx [] (by simp) (fun j u h => by simp at h) (fun u h => by cases h)
    exact ⟨_, w, run_append_nothing w T T ty Te i hP.hT hi (some g) 0 0 (Nat.le_refl _) _ hsrc, hown, Below.refl _ _, .inl rfl⟩
  · obtain ⟨v', w', h1, h2, h3⟩ := run_append_zeroL hP w ty hown hx hS hbase hlen
    have hpos : 0 < ys.length := List.length_pos_iff.2 h0
    obtain ⟨b, off, _, rfl, _⟩ := hx.at 0 hpos
    obtain ⟨ns, hn, hc⟩ := hx.flat
    have hnl := hn.len
    have hsrc : Src P i.size T (.slice (some ⟨b, off, none⟩) ys.length cx) ys.length ns w :=
      Src.ofSlice w hP.hT _ _ _ _ (by rw [hnl, hsz]) (fun j u hj => by rw [Addr.add_lit]; exact hc j u hj) hn.one
    have hbytes : (ys.length) * i.bytes ≤ 1073741824 * 4096 := Nat.mul_le_mul hlen hby
    have hr := run_append_grow_src (P := P) w T T ty Te i z hP.hT hi hz (some g) 0 0 [] (run_firstCells_some w.drew i.size 0 g 0 0 [] (by simp) (fun j u h => by simp at h)) _ _ _ hsrc (by omega) (by omega)
      (growslice_fits (by simp only [Nat.zero_add]; omega) (by simp only [Nat.zero_add]; omega))
    rw [h1] at hr
    injection hr with e1 e2
    exact ⟨v', w', h1, h2, h3, .inr (by rw [e1]; rfl)⟩
theorem wp_append_zeroB (hP : LoP P T Te E.size) {s x : Operand} (ho : o.op = .call { callee := .builtin .append, args := #[s, x], argTypes := #[T, T] })
    {base lo : Nat} {g : Addr} {ax : Option Addr} {cx nx : Nat} {ys : List α} {S : Nat → Prop} (hs : a.eval s = .slice (some g) 0 0) (hown : OwnL E Te base lo w (.slice (some g) 0 0) []) (hx : a.eval x = .slice ax nx cx) (hr : RdL E S w (.slice ax nx cx) ys)
    (hS : ∀ k, S k → lo ≤ k ∧ k < w.heap.size) (hbase : base ≤ w.heap.size)
    (h : ∀ ad cap w', OwnL E Te base lo w' (.slice ad ys.length cap) ys → Below w.heap.size w w' → (Value.ownBlock (.slice ad ys.length cap) = Value.ownBlock (.slice (some g) 0 0) ∨ Value.ownBlock (.slice ad ys.length cap) = some w.heap.size) → K (a.put o.dst (.slice ad ys.length cap)) w') (hlen : ys.length ≤ 1073741824) : o.wp P a w K Q := by
  obtain ⟨v', w', hrun, h2, h3, h4⟩ := run_append_zeroB hP w o.type hown hr hS hbase hlen
  obtain ⟨ad, cap, rfl⟩ := h2.shape
  unfold Oper.wp execOp
  simp only [ho, resolve, invoke, builtin, Sem.run_bind, Sem.run_pure, Result.andThen_ok, List.map_toArray, List.map_cons, List.map_nil, hs, hx, hrun]
  exact h _ _ _ h2 h3 h4
end
structure ApS (W : World) (x : Sp) (l : List Sp) (c0 c2 c4 c5 c6 : Option Value) (V : World) : Prop where
  be : Below W.heap.size W V
  z0 : ∀ v, c0 = some v → c2 = none → ∃ g, v = .slice (some ⟨g, 0, none⟩) 0 0 ∧ OwnL Elt.sp 25 W.heap.size 0 V v []
  l2 : ∀ v, c2 = some v → c5 = none → ∃ a c, v = .slice a l.length c ∧ OwnL Elt.sp 25 W.heap.size 0 V v l
  r4 : ∀ v, c4 = some v → c5 = none → ∃ g, ∃ us : List Value, v = .slice (some ⟨g, 0, none⟩) 1 1 ∧ W.heap.size ≤ g ∧ V.heap[g]? = some (.cells us.toArray 25 (0, 0)) ∧ Elt.sp.R (· < W.heap.size) V x us
  n4 : ∀ u v, ((c0 = some u ∧ c2 = none) ∨ c2 = some u) → c4 = some v → c5 = none → u.ownBlock ≠ v.ownBlock
  l5 : ∀ v, c5 = some v → ∃ a c, v = .slice a (l ++ [x]).length c ∧ OwnL Elt.sp 25 W.heap.size 0 V v (l ++ [x])
  m6 : ∀ v, c6 = some v → v = .bool (decide (∀ y ∈ l ++ [x], mayS y))
def ApE (W : World) (x : Sp) (l : List Sp) : List (Option Value) → World → Prop
  | [c0, c2, c4, c5, c6], V => ApS W x l c0 c2 c4 c5 c6 V
  | _, _ => False
section
variable {W V V' : World} {x : Sp} {l : List Sp} {c0 c2 c4 c5 c6 : Option Value}
theorem ApS.start (W : World) (x : Sp) (l : List Sp) : ApS W x l none none none none none W :=
  ⟨Below.refl _ _, (fun _ h => by cases h), (fun _ h => by cases h), (fun _ h => by cases h), (fun _ _ _ h => by cases h), (fun _ h => by cases h), (fun _ h => by cases h)⟩
theorem ApS.more (h : ApS W x l c0 c2 c4 c5 c6 V) (hb : Below V.heap.size V V') : ApS W x l c0 c2 c4 c5 c6 V' :=
  ⟨h.be.trans (hb.mono h.be.size), (fun v h1 h2 => by obtain ⟨g, e, hO⟩ := h.z0 v h1 h2; exact ⟨g, e, hO.below hb⟩), (fun v h1 h2 => by obtain ⟨a, c, e, hO⟩ := h.l2 v h1 h2; exact ⟨a, c, e, hO.below hb⟩),
   (fun v h1 h2 => by obtain ⟨g, us, e, h3, h4, h5⟩ := h.r4 v h1 h2; exact ⟨g, us, e, h3, (hb.block g (Array.getElem?_eq_some_iff.1 h4).1).trans h4, Elt.below h5 hb⟩), h.n4, (fun v h1 => by obtain ⟨a, c, e, hO⟩ := h.l5 v h1; exact ⟨a, c, e, hO.below hb⟩), h.m6⟩
theorem ApE.more (W : World) (x : Sp) (l : List Sp) : ∀ (t : List (Option Value)) (V V' : World), ApE W x l t V → Below V.heap.size V V' → ApE W x l t V'
  | [_, _, _, _, _], _, _, h, hb => ApS.more h hb
theorem ApS.rowB {v : Value} (h : ApS W x l c0 c2 (some v) none c6 V) : ∃ g, v.ownBlock = some g ∧ g < V.heap.size := by
  obtain ⟨g, us, e, _, h4, _⟩ := h.r4 v rfl rfl
  exact ⟨g, by rw [e]; rfl, (Array.getElem?_eq_some_iff.1 h4).1⟩
theorem ApS.zero (h : ApS W x l none c2 c4 c5 c6 V) (hb : Below V.heap.size V V') (hO : OwnL Elt.sp 25 V.heap.size V.heap.size V' (.slice (some ⟨V.heap.size, 0, none⟩) 0 0) []) :
    ApS W x l (some (.slice (some ⟨V.heap.size, 0, none⟩) 0 0)) c2 c4 c5 c6 V' := by
  have h' := h.more hb
  refine ⟨h'.be, fun v h1 h2 => ?_, h'.l2, h'.r4, fun u v h1 h2 h3 => ?_, h'.l5, h'.m6⟩
  · obtain rfl := Option.some.inj h1
    exact ⟨_, rfl, hO.to h.be.size (Nat.zero_le _)⟩
  · rcases h1 with ⟨h1, _⟩ | h1
    · obtain rfl := Option.some.inj h1
      subst h2 h3
      obtain ⟨g, e, hg⟩ := h.rowB
      rw [e]
      intro e2
      have e3 : V.heap.size = g := Option.some.inj e2
      omega
    · exact h'.n4 u v (.inr h1) h2 h3
theorem ApS.app1 {g : Nat} {a : Option Addr} {c : Nat} (h : ApS W x l (some (.slice (some ⟨g, 0, none⟩) 0 0)) none c4 c5 c6 V) (hb : Below V.heap.size V V') (hO : OwnL Elt.sp 25 W.heap.size 0 V' (.slice a l.length c) l)
    (hw : Value.ownBlock (.slice a l.length c) = Value.ownBlock (.slice (some ⟨g, 0, none⟩) 0 0) ∨ Value.ownBlock (.slice a l.length c) = some V.heap.size) : ApS W x l (some (.slice (some ⟨g, 0, none⟩) 0 0)) (some (.slice a l.length c)) c4 c5 c6 V' := by
  have h' := h.more hb
  refine ⟨h'.be, (fun _ _ h2 => by cases h2), fun v h1 h2 => ?_, h'.r4, fun u v h1 h2 h3 => ?_, h'.l5, h'.m6⟩
  · obtain rfl := Option.some.inj h1
    exact ⟨_, _, rfl, hO⟩
  · rcases h1 with ⟨_, h1⟩ | h1
    · cases h1
    · obtain rfl := Option.some.inj h1
      rcases hw with e | e
      · rw [e]; exact h.n4 _ v (.inl ⟨rfl, rfl⟩) h2 h3
      · subst h2 h3
        obtain ⟨k, e1, hk⟩ := h.rowB
        rw [e, e1]
        intro e2
        have := Option.some.inj e2
        omega
theorem ApS.row {us : List Value} (h : ApS W x l c0 c2 none c5 c6 V) (hb : Below V.heap.size V V') (hc : V'.heap[V.heap.size]? = some (.cells us.toArray 25 (0, 0))) (hR : Elt.sp.R (· < W.heap.size) V' x us) :
    ApS W x l c0 c2 (some (.slice (some ⟨V.heap.size, 0, none⟩) 1 1)) c5 c6 V' := by
  have h' := h.more hb
  refine ⟨h'.be, h'.z0, h'.l2, fun v h1 h2 => ?_, fun u v h1 h2 h3 => ?_, h'.l5, h'.m6⟩
  · obtain rfl := Option.some.inj h1
    exact ⟨_, us, rfl, h.be.size, hc, hR⟩
  · obtain rfl := Option.some.inj h2
    have hlt : ∀ k, u.ownBlock = some k → k < V.heap.size := fun k hk => by
      rcases h1 with ⟨h1, h4⟩ | h1
      · obtain ⟨g, _, hO⟩ := h.z0 u h1 h4
        exact (hO.block_lt k hk).2
      · obtain ⟨a, c, _, hO⟩ := h.l2 u h1 h3
        exact (hO.block_lt k hk).2
    intro e
    have := hlt V.heap.size e
    omega
theorem ApS.app2 {v2 v4 : Value} {a : Option Addr} {c : Nat} (h : ApS W x l c0 (some v2) (some v4) none c6 V) (hg : V.grownBy V' v2.ownBlock) (hO : OwnL Elt.sp 25 W.heap.size 0 V' (.slice a (l ++ [x]).length c) (l ++ [x])) :
    ApS W x l c0 (some v2) (some v4) (some (.slice a (l ++ [x]).length c)) c6 V' := by
  obtain ⟨a2, k2, _, hO2⟩ := h.l2 v2 rfl rfl
  refine ⟨h.be.grown hg h.be.size fun k hk => (hO2.block_lt k hk).1, (fun _ _ h2 => by cases h2), (fun _ _ h2 => by cases h2), (fun _ _ h2 => by cases h2), (fun _ _ _ _ h2 => by cases h2), fun v h1 => ?_, h.m6⟩
  obtain rfl := Option.some.inj h1
  exact ⟨_, _, rfl, hO⟩
theorem ApS.say (h : ApS W x l c0 c2 c4 c5 none V) (hb : Below V.heap.size V V') : ApS W x l c0 c2 c4 c5 (some (.bool (decide (∀ y ∈ l ++ [x], mayS y)))) V' := by
  have h' := h.more hb
  exact ⟨h'.be, h'.z0, h'.l2, h'.r4, h'.n4, h'.l5, fun v h1 => (Option.some.inj h1).symm⟩
end
def hasT (t : Int) (l : List Sp) : Bool := l.any fun s => decide (s.table = t)
theorem oneT_app (t : Int) (s : Sp) : ∀ (l : List Sp) (d : Bool), oneT t d (l ++ [s]) = oneT t d l ++ (if s.table = t then (if (d || hasT t l) = true then [] else [allS t]) else [s])
  | [], d => by by_cases h : s.table = t <;> cases d <;> simp [oneT, hasT, h]
  | y :: l, d => by
    rw [List.cons_append]
    unfold oneT
    by_cases h : y.table = t
    · rw [if_pos h, if_pos h]
      cases d <;> simp [oneT_app t s l true, hasT, h]
    · rw [if_neg h, if_neg h]
      simp [oneT_app t s l d, hasT, h]
theorem oneT_snoc {t : Int} {l : List Sp} {i : Nat} (h : i < l.length) : oneT t false (l.take (i + 1)) = oneT t false (l.take i) ++ (if l[i].table = t then (if hasT t (l.take i) = true then [] else [allS t]) else [l[i]]) := by
  rw [List.take_succ_eq_append_getElem h, oneT_app]
  simp
theorem hasT_snoc {t : Int} {l : List Sp} {i : Nat} (h : i < l.length) : hasT t (l.take (i + 1)) = (hasT t (l.take i) || decide (l[i].table = t)) := by
  unfold hasT
  rw [List.take_succ_eq_append_getElem h, List.any_append]
  simp
theorem oneT_le (t : Int) : ∀ (b : Bool) (l : List Sp), (oneT t b l).length ≤ l.length
  | _, [] => by simp [oneT]
  | b, s :: l => by
    unfold oneT
    have h1 := oneT_le t true l
    have h2 := oneT_le t b l
    split
    · split <;> simp <;> omega
    · simp; omega
theorem oneT_mem (t : Int) : ∀ (b : Bool) (l : List Sp) (y : Sp), y ∈ oneT t b l → y ∈ l ∨ y = allS t
  | _, [], y, h => by simp [oneT] at h
  | b, s :: l, y, h => by
    unfold oneT at h
    split at h
    · split at h
      · exact (oneT_mem t true l y h).imp (fun h => by simp [h]) id
      · rcases List.mem_cons.1 h with h | h
        · exact .inr h
        · exact (oneT_mem t true l y h).imp (fun h => by simp [h]) id
    · rcases List.mem_cons.1 h with h | h
      · exact .inl (by simp [h])
      · exact (oneT_mem t b l y h).imp (fun h => by simp [h]) id
theorem ApE.be {W : World} {x : Sp} {l : List Sp} : ∀ {t : List (Option Value)} {V : World}, ApE W x l t V → Below W.heap.size W V
  | [_, _, _, _, _], _, h => ApS.be h
set_option maxRecDepth 100000 in
set_option maxHeartbeats 8000000 in
theorem rAdd_any (w : World) {S S2 : Nat → Prop} {a : Option Addr} {n c : Nat} {l : List Sp} {v : Value} {x : Sp} {m : Int} (hl : RdL Elt.sp S w (.slice a n c) l) (hs : smL l) (hn : l.length ≤ 800000) (hx : RdSp S2 w v x) (hxs : smS x) :
    Calls Try.prog 25 #[.slice a n c, v, .int .i64 m] w (AdEnd w (addS l x m)) := by
  obtain ⟨rfl, hnc, hcm⟩ := hl.len
  replace hl := hl.fit
  have hxf := hx.fit
  have hsx := hxs
  obtain ⟨hx1, hx2⟩ := hxs
  have hlm3 : l.length ≤ 1073741824 := by omega
  have eM : ∀ args w, (callFunc 47 args).run Try.prog w = .ok (.enter 47 args) w := enters_of Try.func47 (by kernel_rfl) rfl
  have eC : ∀ args w, (callFunc 50 args).run Try.prog w = .ok (.enter 50 args) w := enters_of Try.func50 (by kernel_rfl) rfl
  obtain ⟨p1, p2, p3, p4, rfl, hlx, hhx, htx⟩ := hx
  obtain ⟨W0, hW, q, Bx, hsz⟩ := spBox w 25 [.int .i64 x.table, .slice p1 x.lo.length p2, .slice p3 x.hi.length p4, .bool x.isOpen]
  go_enter Try.func25, Try.ntmps25
  go_upto_region 1 with (fail)
  rw [show w.alloc (.cells #[.int .i64 x.table, .slice p1 x.lo.length p2, .slice p3 x.hi.length p4, .bool x.isOpen] 25) = W0 from hW.symm]
  clear hW
  obtain ⟨W, hWe⟩ : ∃ W, W = W0 := ⟨_, rfl⟩
  rw [← hWe] at Bx q hsz
  rw [← hWe]
  clear hWe
  have hlW : RdL Elt.sp (· < W.heap.size) W (.slice a l.length c) l := (hl.below q).weak fun k hk => Nat.lt_of_lt_of_le hk.2 q.size
  have hxW := hxf.below q
  have hRx : Elt.sp.R (· < W.heap.size) W x [.int .i64 x.table, .slice p1 x.lo.length p2, .slice p3 x.hi.length p4, .bool x.isOpen] := by
    have := rdSp_R hxW
    exact Elt.sp.weak this fun k hk => Nat.lt_of_lt_of_le hk.2 q.size
  clear hlx hhx
  refine wp_region_setl (K := fun _ _ => True) (by kernel_rfl) (by kernel_rfl) [0, 2, 4, 5, 6] (by kernel_rfl) [lAny, lEq (.slice a l.length c), lAny, lEq (.agg #[.int .i64 x.table, .slice p1 x.lo.length p2, .slice p3 x.hi.length p4, .bool x.isOpen]), lAny, lAny, lAny, lEq (.bool (decide (∀ y ∈ l ++ [x], mayS y)))] (ApE W x l) (ApE.more W x l) (ApS.start W x l)
    ⟨?o0, ?o1, ?o2, ?o3, ?o4, ?o5, ?o6, ?o7, trivial⟩ ?fin
  case o0 =>
    refine StOp.set rfl (by kernel_rfl) (fun A va D w' hF hT hN hE hd hu hg => ?_)
    have hE2 := hE
    simp only [told, List.map_cons, List.map_nil, hN, Bool.false_eq_true, if_false] at hE2
    exact wp_buildZero (E := Elt.sp) spP rfl fun w2 h1 h2 => ⟨_, rfl, by have h5 := ApS.zero hE2 h1 h2; simpa [ApE, told, don, upd] using h5, trivial⟩
  case o1 =>
    refine StOp.free rfl (by kernel_rfl) (fun A va D w' hF hT hN hE hd hu hg => ?_)
    have e1 : A.eval (.tmp 0) = .slice a l.length c := hF 0 rfl
    exact BigFrame.wp_move _ rfl ⟨_, rfl, e1, Below.refl _ _⟩
  case o2 =>
    refine StOp.set rfl (by kernel_rfl) (fun A va D w' hF hT hN hE hd hu hg => ?_)
    have x1 : A.eval (.tmp 19) = va 0 := hT 19 0 (by simp) rfl
    have e2 : A.eval (.tmp 20) = .slice a l.length c := (hT 20 1 (by simp) rfl).trans (hg ⟨1, .data⟩ (by simp) rfl rfl)
    have d0 : D 0 = true := hd ⟨0, .data⟩ (by simp) rfl
    have hE2 := hE
    simp only [told, List.map_cons, List.map_nil, hN, d0, Bool.false_eq_true, if_false, if_true] at hE2
    obtain ⟨g, eg, hO0⟩ := ApS.z0 hE2 _ rfl rfl
    rw [eg] at hO0 hE2
    refine wp_append_zeroB (E := Elt.sp) spP rfl (x1.trans eg) hO0 e2 (hlW.below hE2.be) (fun k hk => ⟨Nat.zero_le _, Nat.lt_of_lt_of_le hk hE2.be.size⟩) hE2.be.size (fun ad cap w2 h1 h2 h3 => ?_) hlm3
    have h5 := ApS.app1 hE2 h2 h1 h3
    exact ⟨_, rfl, by simpa [ApE, told, don, upd, d0, eg] using h5, trivial⟩
  case o3 =>
    refine StOp.free rfl (by kernel_rfl) (fun A va D w' hF hT hN hE hd hu hg => ?_)
    have e1 : A.eval (.tmp 4) = .pointer (some ⟨w.heap.size, 0, none⟩) := hF 4 rfl
    have hbe := ApE.be hE
    have hJB := Bx.below hbe Bx.lt
    exact wp_load4 spS rfl e1 (hJB.cell (i := 0) rfl) (hJB.cell (i := 1) rfl) (hJB.cell (i := 2) rfl) (hJB.cell (i := 3) rfl) ⟨_, rfl, rfl, Below.refl _ _⟩
  case o4 =>
    refine StOp.set rfl (by kernel_rfl) (fun A va D w' hF hT hN hE hd hu hg => ?_)
    have e1 : A.eval (.tmp 22) = .agg #[.int .i64 x.table, .slice p1 x.lo.length p2, .slice p3 x.hi.length p4, .bool x.isOpen] := (hT 22 3 (by simp) rfl).trans (hg ⟨3, .data⟩ (by simp) rfl rfl)
    have hE2 := hE
    simp only [told, List.map_cons, List.map_nil, hN, Bool.false_eq_true, if_false] at hE2
    have hbn := (Below.refl w'.heap.size w').alloc (Nat.le_refl _) (.cells [.int .i64 x.table, .slice p1 x.lo.length p2, .slice p3 x.hi.length p4, .bool x.isOpen].toArray 25)
    have h5 := ApS.row (us := [.int .i64 x.table, .slice p1 x.lo.length p2, .slice p3 x.hi.length p4, .bool x.isOpen]) hE2 hbn (by simp only [World.alloc, Array.getElem?_push_size]) (Elt.below (Elt.below hRx hE2.be) hbn)
    exact wp_buildOne spP rfl e1 rfl rfl (by omega) (by omega) ⟨_, rfl, by simpa [ApE, told, don, upd] using h5, trivial⟩
  case o5 =>
    refine StOp.set rfl (by kernel_rfl) (fun A va D w' hF hT hN hE hd hu hg => ?_)
    have x1 : A.eval (.tmp 21) = va 2 := hT 21 2 (by simp) rfl
    have x2 : A.eval (.tmp 23) = va 4 := hT 23 4 (by simp) rfl
    have d2 : D 2 = true := hd ⟨2, .data⟩ (by simp) rfl
    have d4 : D 4 = true := hd ⟨4, .data⟩ (by simp) rfl
    have hE2 := hE
    simp only [told, List.map_cons, List.map_nil, hN, d2, d4, Bool.false_eq_true, if_false, if_true] at hE2
    obtain ⟨a2, k2, e2, hO2⟩ := ApS.l2 hE2 _ rfl rfl
    obtain ⟨g, us, eg, hg0, hgc, hgR⟩ := ApS.r4 hE2 _ rfl rfl
    have hne := ApS.n4 hE2 _ _ (.inr rfl) rfl rfl
    have hbs := hE2.be.size
    refine wp_appendL (E := Elt.sp) (ys := [x]) spP rfl x1 hO2 (x2.trans eg) (fun j u hj => by rw [Addr.add_lit, World.cell?, hgc]; simpa using hj) (Flat.single hgR) (fun k hk => ⟨Nat.zero_le _, Nat.lt_of_lt_of_le hk hbs, fun e => by have := (hO2.block_lt k e.symm).1; omega⟩) hbs (fun ad7 k7 cap7 w2 h2 hg h3 => ?_) (by simp; omega)
    obtain rfl : k7 = (l ++ [x]).length := h2.len
    have h5 := ApS.app2 hE2 hg h2
    exact ⟨_, rfl, by simpa [ApE, told, don, upd, d2, d4] using h5, trivial⟩
  case o6 =>
    refine StOp.set rfl (by kernel_rfl) (fun A va D w' hF hT hN hE hd hu hg => ?_)
    have x1 : A.eval (.tmp 24) = va 5 := hT 24 5 (by simp) rfl
    have d5 : D 5 = true := hd ⟨5, .data⟩ (by simp) rfl
    have hE2 := hE
    simp only [told, List.map_cons, List.map_nil, hN, d5, Bool.false_eq_true, if_false, if_true] at hE2
    obtain ⟨a5, k5, e5, hO5⟩ := ApS.l5 hE2 _ rfl
    refine wp_callFn rfl eM (args := #[.slice a5 (l ++ [x]).length k5]) (by simp only [List.map_toArray, List.map_cons, List.map_nil, x1.trans e5]) ((rMay_any w' (e5 ▸ hO5).rdL).mono ?_)
    rintro e w2 ⟨rfl, hb2⟩
    have h5 := ApS.say hE2 hb2
    exact ⟨_, rfl, _, rfl, by simpa [ApE, told, don, upd, d5] using h5, trivial⟩
  case o7 =>
    refine StOp.free rfl (by kernel_rfl) (fun A va D w' hF hT hN hE hd hu hg => ?_)
    have x1 : A.eval (.tmp 25) = va 6 := hT 25 6 (by simp) rfl
    have d6 : D 6 = true := hd ⟨6, .data⟩ (by simp) rfl
    have hE2 := hE
    simp only [told, List.map_cons, List.map_nil, d6, if_true] at hE2
    exact BigFrame.wp_assign _ rfl ⟨_, rfl, x1.trans (ApS.m6 hE2 _ rfl), Below.refl _ _⟩
  case fin =>
    intro vs1 W9 hE hG
    have g7 : vs1 7 = .bool (decide (∀ y ∈ l ++ [x], mayS y)) := hG 7 (by decide) rfl
    have hbe := ApE.be hE
    clear hG hE
    simp only [putAll, g7]
    clear g7
    go_simp
    replace q := q.trans (hbe.mono q.size)
    replace Bx := Bx.below hbe Bx.lt
    have zW : w.heap.size < W.heap.size := by omega
    have zW9 := hbe.size
    clear hbe hlW hxW hlm3 eM
    by_cases hal : ∀ y ∈ l ++ [x], mayS y
    case neg =>
      rw [decide_eq_false hal]
      have H := Lib.hid (show addS l x m = (l, 1) from if_neg fun h => hal fun y hy => (List.mem_append.1 hy).elim (h.2.1 y) fun h2 => by rw [List.mem_singleton.1 h2]; exact h.1)
      clear hal
      go_wp2_with fail
      refine (rCopy_any _ (hl.below q) hs).mono ?_
      rintro e w9 ⟨a', c', rfl, hO', hb2⟩
      go_wp2_with fail
      go_ret2
      rw [H.out]
      exact ⟨_, _, _, rfl, hO'.to q.size q.size, q.trans (hb2.mono q.size)⟩
    rw [decide_eq_true hal]
    by_cases hm1 : 1 ≤ m
    case neg =>
      have d1 : decide (m < 1) = true := decide_eq_true (by omega)
      have H := Lib.hid (show addS l x m = (l, 1) from if_neg fun h => hm1 h.2.2.1)
      clear hm1 hal
      go_wp2_with fail
      refine (rCopy_any _ (hl.below q) hs).mono ?_
      rintro e w9 ⟨a', c', rfl, hO', hb2⟩
      go_wp2_with fail
      go_ret2
      rw [H.out]
      exact ⟨_, _, _, rfl, hO'.to q.size q.size, q.trans (hb2.mono q.size)⟩
    have d1 : decide (m < 1) = false := decide_eq_false (by omega)
    by_cases hm2 : m ≤ 100
    case neg =>
      have d2 : decide (100 < m) = true := decide_eq_true (by omega)
      have H := Lib.hid (show addS l x m = (l, 1) from if_neg fun h => hm2 h.2.2.2)
      clear hm1 hm2 hal
      go_wp2_with fail
      refine (rCopy_any _ (hl.below q) hs).mono ?_
      rintro e w9 ⟨a', c', rfl, hO', hb2⟩
      go_wp2_with fail
      go_ret2
      rw [H.out]
      exact ⟨_, _, _, rfl, hO'.to q.size q.size, q.trans (hb2.mono q.size)⟩
    have d2 : decide (100 < m) = false := decide_eq_false (by omega)
    have hok := Lib.hid (show okA l x m from ⟨hal x (by simp), fun y hy => hal y (by simp [hy]), hm1, hm2⟩)
    clear hal
    have c0 := Bx.cell (i := 0) rfl
    have c1 := Bx.cell (i := 1) rfl
    have c2 := Bx.cell (i := 2) rfl
    have c3 := Bx.cell (i := 3) rfl
    go_wp2_with fail
    refine (rEmpty_any _ (hxf.below q)).mono ?_
    rintro e w1 ⟨rfl, hb⟩
    replace q := q.trans (hb.mono q.size)
    replace Bx := Bx.below hb Bx.lt
    replace zW9 := Nat.le_trans zW9 hb.size
    clear c0 c1 c2 c3 hb d1 d2
    cases hex : emptyS x with
    | true =>
      have H := Lib.hid (show addS l x m = (l, 0) by unfold addS; rw [if_pos hok.out, if_pos (by unfold stays; rw [hex]; rfl)])
      clear hex
      go_wp2_with fail
      refine (rCopy_any _ (hl.below q) hs).mono ?_
      rintro e w9 ⟨a', c', rfl, hO', hb2⟩
      go_wp2_with fail
      go_ret2
      rw [H.out]
      exact ⟨_, _, _, rfl, hO'.to q.size q.size, q.trans (hb2.mono q.size)⟩
    | false =>
    go_upto_region 9 with (fail)
    go_loopw [10, 11] (fun ov kv wr => ∃ (k : Nat) (ad : Option Addr) (ko : Nat), kv = .int .i64 k ∧ k ≤ l.length ∧ ov = .slice ad (besideS (l.take k) x).length ko ∧ OwnL Elt.sp 25 W.heap.size 0 wr (.slice ad (besideS (l.take k) x).length ko) (besideS (l.take k) x) ∧ (∀ s ∈ l.take k, coversS s x = false) ∧ BoxN wr w.heap.size 25 [.int .i64 x.table, .slice p1 x.lo.length p2, .slice p3 x.hi.length p4, .bool x.isOpen] ∧ Below w.heap.size w wr ∧ W.heap.size ≤ wr.heap.size)
      (fun _ i _ => l.length - (intOf i).toNat)
    case atStart => exact ⟨0, none, 0, rfl, Nat.zero_le _, rfl, OwnL.nil _ _ _ _ _, by simp, Bx, q, zW9⟩
    case round =>
    clear q Bx zW9
    obtain ⟨k, ad, ko, rfl, hkl, rfl, hO, hno, Bx, q, zW9⟩ := hrel
    replace hno := Lib.hid hno
    rcases Nat.lt_or_ge k l.length with hlt | hge
    · have dk : decide ((k : Int) < (l.length : Int)) = true := decide_eq_true (by omega)
      obtain ⟨b, off, KA, KC, VA, VC, rfl, hb, c0, c1, c2, c3, hk1, hk2, ht⟩ := (hl.below q).sp k hlt
      have hsn := Lib.hid (show besideS (l.take (k + 1)) x = besideS (l.take k) x ++ (if coversS x l[k] = true then [] else [l[k]]) from beside_snoc hlt)
      have hcv := Lib.hid (show ∀ b, coversS l[k] x = b → (b = true → stays l x = true) ∧ (b = false → ∀ s ∈ l.take (k + 1), coversS s x = false) from fun b hb => ⟨fun h => by
          unfold stays; rw [List.any_eq_true.2 ⟨_, List.getElem_mem hlt, by rw [hb, h]⟩]; simp, fun h s hs => by
          rw [List.take_succ_eq_append_getElem hlt] at hs
          rcases List.mem_append.1 hs with h2 | h2
          · exact hno.out s h2
          · simp at h2; rw [h2, hb, h]⟩)
      obtain ⟨s, es⟩ : ∃ s, s = l[k] := ⟨_, rfl⟩
      obtain ⟨xs, exs⟩ : ∃ xs, xs = besideS (l.take k) x := ⟨_, rfl⟩
      have hxl : xs.length ≤ 800000 := by rw [exs]; refine Nat.le_trans (List.length_filter_le _ _) ?_; rw [List.length_take]; omega
      rw [← es] at c0 c1 c2 c3 hk1 hk2 ht hsn hcv
      rw [← exs] at hO hsn
      rw [← exs]
      clear es exs hno
      have hrr : ∀ k, Value.ownBlock (.slice ad xs.length ko) = some k → W.heap.size ≤ k ∧ k < wr.heap.size := fun k hk => hO.block_lt k hk
      have hss : RdSp (fun k => k < w.heap.size) wr (.agg #[.int .i64 s.table, .slice KA s.lo.length KC, .slice VA s.hi.length VC, .bool s.isOpen]) s := ⟨_, _, _, _, rfl, hk1.weak fun k hk => hk.2, hk2.weak fun k hk => hk.2, ht⟩
      clear hk1 hk2 ht hb
      go_upto_region 11 with (fail)
      refine wp_region_gsg (by kernel_rfl) (by kernel_rfl) [sgEq (.slice (some ⟨b, off, none⟩) l.length c), sgEq (.int .i64 (k : Nat)), sgEq (.pointer (some ⟨b, off + k * 4, none⟩)), sgEq (.agg #[.int .i64 s.table, .slice KA s.lo.length KC, .slice VA s.hi.length VC, .bool s.isOpen]), sgEq (.agg #[.int .i64 x.table, .slice p1 x.lo.length p2, .slice p3 x.hi.length p4, .bool x.isOpen]), sgEq (.bool (coversS s x)), sgEq (.bool (coversS s x))]
        ⟨?o0, ?o1, ?o2, ?o3, ?o4, ?o5, ?o6, trivial⟩ ?fin
      case o0 =>
        refine GdOp.plain rfl (fun A vs w' hF hT hb hd => ?_)
        have e1 : A.eval (.tmp 0) = .slice (some ⟨b, off, none⟩) l.length c := hF 0 rfl
        exact BigFrame.wp_move _ rfl ⟨_, rfl, e1, Below.refl _ _⟩
      case o1 =>
        refine GdOp.plain rfl (fun A vs w' hF hT hb hd => ?_)
        have e1 : A.eval (.tmp 11) = .int .i64 (k : Nat) := hF 11 rfl
        exact BigFrame.wp_move _ rfl ⟨_, rfl, e1, Below.refl _ _⟩
      case o2 =>
        refine GdOp.plain rfl (fun A vs w' hF hT hb hd => ?_)
        have e1 : A.eval (.tmp 49) = .slice (some ⟨b, off, none⟩) l.length c := (hT 49 0 (by simp) rfl).trans (hd ⟨0, .data⟩ (by simp) rfl)
        have e2 : A.eval (.tmp 50) = .int .i64 (k : Nat) := (hT 50 1 (by simp) rfl).trans (hd ⟨1, .data⟩ (by simp) rfl)
        exact wp_ixN (e := 25) rfl (by kernel_rfl) (by kernel_rfl) (e1) (e2) rfl (by omega) ⟨_, rfl, rfl, Below.refl _ _⟩
      case o3 =>
        refine GdOp.plain rfl (fun A vs w' hF hT hb hd => ?_)
        have e1 : A.eval (.tmp 51) = .pointer (some ⟨b, off + k * 4, none⟩) := (hT 51 2 (by simp) rfl).trans (hd ⟨2, .data⟩ (by simp) rfl)
        exact wp_load4 spS rfl e1 ((hb.cell (p := ⟨_, _, none⟩) (cell_lt c0)).trans c0) ((hb.cell (p := ⟨_, _, none⟩) (cell_lt c1)).trans c1) ((hb.cell (p := ⟨_, _, none⟩) (cell_lt c2)).trans c2) ((hb.cell (p := ⟨_, _, none⟩) (cell_lt c3)).trans c3) ⟨_, rfl, rfl, Below.refl _ _⟩
      case o4 =>
        refine GdOp.plain rfl (fun A vs w' hF hT hb hd => ?_)
        have e1 : A.eval (.tmp 4) = .pointer (some ⟨w.heap.size, 0, none⟩) := hF 4 rfl
        exact wp_load4 spS rfl e1 ((Bx.below hb Bx.lt).cell (i := 0) rfl) ((Bx.below hb Bx.lt).cell (i := 1) rfl) ((Bx.below hb Bx.lt).cell (i := 2) rfl) ((Bx.below hb Bx.lt).cell (i := 3) rfl) ⟨_, rfl, rfl, Below.refl _ _⟩
      case o5 =>
        refine GdOp.plain rfl (fun A vs w' hF hT hb hd => ?_)
        have e1 : A.eval (.tmp 52) = .agg #[.int .i64 s.table, .slice KA s.lo.length KC, .slice VA s.hi.length VC, .bool s.isOpen] := (hT 52 3 (by simp) rfl).trans (hd ⟨3, .data⟩ (by simp) rfl)
        have e2 : A.eval (.tmp 53) = .agg #[.int .i64 x.table, .slice p1 x.lo.length p2, .slice p3 x.hi.length p4, .bool x.isOpen] := (hT 53 4 (by simp) rfl).trans (hd ⟨4, .data⟩ (by simp) rfl)
        refine wp_callFn rfl eC (args := #[.agg #[.int .i64 s.table, .slice KA s.lo.length KC, .slice VA s.hi.length VC, .bool s.isOpen], .agg #[.int .i64 x.table, .slice p1 x.lo.length p2, .slice p3 x.hi.length p4, .bool x.isOpen]]) (by simp only [List.map_toArray, List.map_cons, List.map_nil, e1, e2]) ((rCovers_any w' (hss.below hb) ((hxf.below q).below hb)).mono ?_)
        rintro e w2 ⟨rfl, hb2⟩
        exact ⟨_, rfl, _, rfl, rfl, hb2⟩
      case o6 =>
        refine GdOp.plain rfl (fun A vs w' hF hT hb hd => ?_)
        have e1 : A.eval (.tmp 54) = .bool (coversS s x) := (hT 54 5 (by simp) rfl).trans (hd ⟨5, .data⟩ (by simp) rfl)
        exact BigFrame.wp_assign _ rfl ⟨_, rfl, e1, Below.refl _ _⟩
      case fin =>
      intro vs9 W9 hb9 hG9
      have e0 : vs9 0 = .slice (some ⟨b, off, none⟩) l.length c := hG9 0 (by decide)
      have e1 : vs9 1 = .int .i64 (k : Nat) := hG9 1 (by decide)
      have e2 : vs9 2 = .pointer (some ⟨b, off + k * 4, none⟩) := hG9 2 (by decide)
      have e3 : vs9 3 = .agg #[.int .i64 s.table, .slice KA s.lo.length KC, .slice VA s.hi.length VC, .bool s.isOpen] := hG9 3 (by decide)
      have e4 : vs9 4 = .agg #[.int .i64 x.table, .slice p1 x.lo.length p2, .slice p3 x.hi.length p4, .bool x.isOpen] := hG9 4 (by decide)
      have e5 : vs9 5 = .bool (coversS s x) := hG9 5 (by decide)
      have e6 : vs9 6 = .bool (coversS s x) := hG9 6 (by decide)
      simp only [putAll, e0, e1, e2, e3, e4, e5, e6]
      clear hG9 e0 e1 e2 e3 e4 e5 e6
      replace Bx := Bx.below hb9 Bx.lt
      replace hO := hO.below hb9
      replace hss := hss.below hb9
      replace c0 := (hb9.cell (p := ⟨_, _, none⟩) (cell_lt c0)).trans c0
      replace c1 := (hb9.cell (p := ⟨_, _, none⟩) (cell_lt c1)).trans c1
      replace c2 := (hb9.cell (p := ⟨_, _, none⟩) (cell_lt c2)).trans c2
      replace c3 := (hb9.cell (p := ⟨_, _, none⟩) (cell_lt c3)).trans c3
      replace q := q.trans (hb9.mono q.size)
      replace zW9 := Nat.le_trans zW9 hb9.size
      clear hb9
      go_simp
      cases hc : coversS s x with
      | true =>
        have H := Lib.hid (show addS l x m = (l, 0) by unfold addS; rw [if_pos hok.out, if_pos ((hcv.out _ hc).1 rfl)])
        clear hc hcv hsn hex
        go_wp2_with fail
        refine (rCopy_any _ (hl.below q) hs).mono ?_
        rintro e w9 ⟨a', c', rfl, hO', hb2⟩
        go_wp2_with fail
        go_ret2
        rw [H.out]
        exact ⟨_, _, _, rfl, hO'.to q.size q.size, q.trans (hb2.mono q.size)⟩
      | false =>
        have hno := Lib.hid ((hcv.out _ hc).2 rfl)
        clear hc hcv
        go_upto_region 14 with (fail)
        refine wp_region_gsg (by kernel_rfl) (by kernel_rfl) [sgEq (.agg #[.int .i64 x.table, .slice p1 x.lo.length p2, .slice p3 x.hi.length p4, .bool x.isOpen]), sgEq (.slice (some ⟨b, off, none⟩) l.length c), sgEq (.int .i64 (k : Nat)), sgEq (.pointer (some ⟨b, off + k * 4, none⟩)), sgEq (.agg #[.int .i64 s.table, .slice KA s.lo.length KC, .slice VA s.hi.length VC, .bool s.isOpen]), sgEq (.bool (coversS x s)), sgEq (.bool (coversS x s))]
          ⟨?o0, ?o1, ?o2, ?o3, ?o4, ?o5, ?o6, trivial⟩ ?fin
        case o0 =>
          refine GdOp.plain rfl (fun A vs w' hF hT hb hd => ?_)
          have e1 : A.eval (.tmp 4) = .pointer (some ⟨w.heap.size, 0, none⟩) := hF 4 rfl
          exact wp_load4 spS rfl e1 ((Bx.below hb Bx.lt).cell (i := 0) rfl) ((Bx.below hb Bx.lt).cell (i := 1) rfl) ((Bx.below hb Bx.lt).cell (i := 2) rfl) ((Bx.below hb Bx.lt).cell (i := 3) rfl) ⟨_, rfl, rfl, Below.refl _ _⟩
        case o1 =>
          refine GdOp.plain rfl (fun A vs w' hF hT hb hd => ?_)
          have e1 : A.eval (.tmp 0) = .slice (some ⟨b, off, none⟩) l.length c := hF 0 rfl
          exact BigFrame.wp_move _ rfl ⟨_, rfl, e1, Below.refl _ _⟩
        case o2 =>
          refine GdOp.plain rfl (fun A vs w' hF hT hb hd => ?_)
          have e1 : A.eval (.tmp 11) = .int .i64 (k : Nat) := hF 11 rfl
          exact BigFrame.wp_move _ rfl ⟨_, rfl, e1, Below.refl _ _⟩
        case o3 =>
          refine GdOp.plain rfl (fun A vs w' hF hT hb hd => ?_)
          have e1 : A.eval (.tmp 59) = .slice (some ⟨b, off, none⟩) l.length c := (hT 59 1 (by simp) rfl).trans (hd ⟨1, .data⟩ (by simp) rfl)
          have e2 : A.eval (.tmp 60) = .int .i64 (k : Nat) := (hT 60 2 (by simp) rfl).trans (hd ⟨2, .data⟩ (by simp) rfl)
          exact wp_ixN (e := 25) rfl (by kernel_rfl) (by kernel_rfl) (e1) (e2) rfl (by omega) ⟨_, rfl, rfl, Below.refl _ _⟩
        case o4 =>
          refine GdOp.plain rfl (fun A vs w' hF hT hb hd => ?_)
          have e1 : A.eval (.tmp 61) = .pointer (some ⟨b, off + k * 4, none⟩) := (hT 61 3 (by simp) rfl).trans (hd ⟨3, .data⟩ (by simp) rfl)
          exact wp_load4 spS rfl e1 ((hb.cell (p := ⟨_, _, none⟩) (cell_lt c0)).trans c0) ((hb.cell (p := ⟨_, _, none⟩) (cell_lt c1)).trans c1) ((hb.cell (p := ⟨_, _, none⟩) (cell_lt c2)).trans c2) ((hb.cell (p := ⟨_, _, none⟩) (cell_lt c3)).trans c3) ⟨_, rfl, rfl, Below.refl _ _⟩
        case o5 =>
          refine GdOp.plain rfl (fun A vs w' hF hT hb hd => ?_)
          have e1 : A.eval (.tmp 58) = .agg #[.int .i64 x.table, .slice p1 x.lo.length p2, .slice p3 x.hi.length p4, .bool x.isOpen] := (hT 58 0 (by simp) rfl).trans (hd ⟨0, .data⟩ (by simp) rfl)
          have e2 : A.eval (.tmp 62) = .agg #[.int .i64 s.table, .slice KA s.lo.length KC, .slice VA s.hi.length VC, .bool s.isOpen] := (hT 62 4 (by simp) rfl).trans (hd ⟨4, .data⟩ (by simp) rfl)
          refine wp_callFn rfl eC (args := #[.agg #[.int .i64 x.table, .slice p1 x.lo.length p2, .slice p3 x.hi.length p4, .bool x.isOpen], .agg #[.int .i64 s.table, .slice KA s.lo.length KC, .slice VA s.hi.length VC, .bool s.isOpen]]) (by simp only [List.map_toArray, List.map_cons, List.map_nil, e1, e2]) ((rCovers_any w' ((hxf.below q).below hb) (hss.below hb)).mono ?_)
          rintro e w2 ⟨rfl, hb2⟩
          exact ⟨_, rfl, _, rfl, rfl, hb2⟩
        case o6 =>
          refine GdOp.plain rfl (fun A vs w' hF hT hb hd => ?_)
          have e1 : A.eval (.tmp 63) = .bool (coversS x s) := (hT 63 5 (by simp) rfl).trans (hd ⟨5, .data⟩ (by simp) rfl)
          exact BigFrame.wp_assign _ rfl ⟨_, rfl, e1, Below.refl _ _⟩
        case fin =>
        intro vs9 W9 hb9 hG9
        have e0 : vs9 0 = .agg #[.int .i64 x.table, .slice p1 x.lo.length p2, .slice p3 x.hi.length p4, .bool x.isOpen] := hG9 0 (by decide)
        have e1 : vs9 1 = .slice (some ⟨b, off, none⟩) l.length c := hG9 1 (by decide)
        have e2 : vs9 2 = .int .i64 (k : Nat) := hG9 2 (by decide)
        have e3 : vs9 3 = .pointer (some ⟨b, off + k * 4, none⟩) := hG9 3 (by decide)
        have e4 : vs9 4 = .agg #[.int .i64 s.table, .slice KA s.lo.length KC, .slice VA s.hi.length VC, .bool s.isOpen] := hG9 4 (by decide)
        have e5 : vs9 5 = .bool (coversS x s) := hG9 5 (by decide)
        have e6 : vs9 6 = .bool (coversS x s) := hG9 6 (by decide)
        simp only [putAll, e0, e1, e2, e3, e4, e5, e6]
        clear hG9 e0 e1 e2 e3 e4 e5 e6
        replace Bx := Bx.below hb9 Bx.lt
        replace hO := hO.below hb9
        replace hss := hss.below hb9
        replace c0 := (hb9.cell (p := ⟨_, _, none⟩) (cell_lt c0)).trans c0
        replace c1 := (hb9.cell (p := ⟨_, _, none⟩) (cell_lt c1)).trans c1
        replace c2 := (hb9.cell (p := ⟨_, _, none⟩) (cell_lt c2)).trans c2
        replace c3 := (hb9.cell (p := ⟨_, _, none⟩) (cell_lt c3)).trans c3
        replace q := q.trans (hb9.mono q.size)
        replace zW9 := Nat.le_trans zW9 hb9.size
        clear hb9
        go_simp
        cases hc : coversS x s with
        | true =>
          have hn2 := Lib.hid (show besideS (l.take (k + 1)) x = xs by rw [hsn.out, if_pos hc, List.append_nil])
          clear hc hsn hss c0 c1 c2 c3
          go_wp2_with fail
          go_roundw
          case rel => exact ⟨k + 1, ad, ko, by go_num, by omega, by rw [hn2.out], by rw [hn2.out]; exact hO, hno.out, Bx, q, by omega⟩
          case measure => simp [intOf]; omega
        | false =>
          have hn2 := Lib.hid (show besideS (l.take (k + 1)) x = xs ++ [s] by rw [hsn.out, if_neg (by rw [hc]; simp)])
          clear hc hsn
          have hR := rdSp_R hss
          go_wp2_with (first
            | (refine wpList_buildOne spP rfl rfl rfl (us := [.int .i64 s.table, .slice KA s.lo.length KC, .slice VA s.hi.length VC, .bool s.isOpen]) rfl rfl (by decide) (by decide) ?_; intro w5 hb5 hrow)
            | (refine wpList_apvRow (E := Elt.sp) (n := xs.length + 1) spP rfl rfl rfl rfl (hO.below hb5) hrow (Elt.below hR hb5) (fun k hk => ⟨Nat.zero_le _, Nat.lt_of_lt_of_le (by omega : k < W.heap.size) (Nat.le_trans zW9 hb5.size), fun e => by have := hrr k e.symm; omega⟩) (Nat.le_trans zW9 hb5.size) (by omega) rfl ?_; intro ad9 c9 w6 hO9 hg6 _)
            | fail)
          have q5 := q.trans (hb5.mono q.size)
          have q9 := q5.grown hg6 q5.size fun k hk => by have := hrr k hk; omega
          have Bx9 := (Bx.below hb5 Bx.lt).other hg6 fun e => by have := hrr _ e; omega
          have z9 := Nat.le_trans zW9 (Nat.le_trans hb5.size hg6.size)
          have hL9 := Lib.hid (show xs.length + 1 = (besideS (l.take (k + 1)) x).length by rw [hn2.out]; simp)
          clear hO hR hss q q5 hg6 hrow hb5 Bx zW9 c0 c1 c2 c3
          go_roundw
          case rel =>
            have e := hL9.out
            rw [e, ← hn2.out] at hO9
            rw [e]
            exact ⟨k + 1, ad9, c9, by go_num, by omega, rfl, hO9, hno.out, Bx9, q9, z9⟩
          case measure => simp [intOf]; omega
    · obtain rfl : k = l.length := by omega
      rw [List.take_length] at hO hno
      rw [List.take_length]
      have d0 : decide ((l.length : Int) < (l.length : Int)) = false := decide_eq_false (by omega)
      have H := Lib.hid (show addS l x m = if (manyT x.table (besideS l x ++ [x]) : Int) ≤ m then (besideS l x ++ [x], 0) else (oneT x.table false (besideS l x ++ [x]), 0) by
        unfold addS
        rw [if_pos hok.out, if_neg (by unfold stays; rw [hex, show (l.any fun s => coversS s x) = false from List.any_eq_false.2 fun s hs => by rw [hno.out s hs]; simp]; simp)])
      have hsmo : smL (besideS l x ++ [x]) := ⟨by have : (besideS l x).length ≤ l.length := List.length_filter_le _ _; simp; omega, fun y hy => (List.mem_append.1 hy).elim (fun h => hs.2 y (List.mem_filter.1 h).1) fun h => by rw [List.mem_singleton.1 h]; exact hsx⟩
      obtain ⟨xs, exs⟩ : ∃ xs, xs = besideS l x := ⟨_, rfl⟩
      have hxl : xs.length ≤ 800000 := by rw [exs]; exact Nat.le_trans (List.length_filter_le _ _) hn
      rw [← exs] at hO H hsmo
      rw [← exs]
      clear exs hno hex hok
      have hrr : ∀ k, Value.ownBlock (.slice ad xs.length ko) = some k → W.heap.size ≤ k ∧ k < wr.heap.size := fun k hk => hO.block_lt k hk
      have c0 := Bx.cell (i := 0) rfl
      have c1 := Bx.cell (i := 1) rfl
      have c2 := Bx.cell (i := 2) rfl
      have c3 := Bx.cell (i := 3) rfl
      have hR := rdSp_R (hxf.below q)
      replace hR := Elt.sp.weak hR fun k hk => hk.2
      go_upto_region 20 with (first
        | (refine wpList_buildOne spP rfl rfl rfl (us := [.int .i64 x.table, .slice p1 x.lo.length p2, .slice p3 x.hi.length p4, .bool x.isOpen]) rfl rfl (by decide) (by decide) ?_; intro w5 hb5 hrow)
        | (refine wpList_apvRow (E := Elt.sp) (n := xs.length + 1) spP rfl rfl rfl rfl (hO.below hb5) hrow (Elt.below hR hb5) (fun k hk => ⟨Nat.zero_le _, Nat.lt_of_lt_of_le (by omega : k < W.heap.size) (Nat.le_trans zW9 hb5.size), fun e => by have := hrr k e.symm; omega⟩) (Nat.le_trans zW9 hb5.size) (by omega) rfl ?_; intro ad9 c9 w6 hO9 hg6 _)
        | fail)
      have q5 := q.trans (hb5.mono q.size)
      have q9 := q5.grown hg6 q5.size fun k hk => by have := hrr k hk; omega
      have Bx9 := (Bx.below hb5 Bx.lt).other hg6 fun e => by have := hrr _ e; omega
      have z9 := Nat.le_trans zW9 (Nat.le_trans hb5.size hg6.size)
      clear hO hR q q5 hg6 hrow hb5 Bx zW9 c0 c1 c2 c3 d0 hrr
      obtain ⟨os, eos⟩ : ∃ os, os = xs ++ [x] := ⟨_, rfl⟩
      have hL : xs.length + 1 = os.length := by rw [eos]; simp
      rw [← eos, hL] at hO9
      rw [← eos] at H hsmo
      rw [hL]
      have hol : os.length ≤ 800001 := by omega
      clear eos hL hxl
      go_loopw [14, 15] (fun mv iv wr => ∃ (i : Nat), iv = .int .i64 (i : Int) ∧ i ≤ os.length ∧ mv = .int .i64 (manyT x.table (os.take i) : Nat) ∧ OwnL Elt.sp 25 W.heap.size 0 wr (.slice ad9 os.length c9) os ∧ BoxN wr w.heap.size 25 [.int .i64 x.table, .slice p1 x.lo.length p2, .slice p3 x.hi.length p4, .bool x.isOpen] ∧ Below w.heap.size w wr ∧ W.heap.size ≤ wr.heap.size)
        (fun _ i _ => os.length - (intOf i).toNat)
      case atStart => exact ⟨0, rfl, Nat.zero_le _, rfl, hO9, Bx9, q9, z9⟩
      case round =>
      clear hO9 Bx9 q9 z9
      obtain ⟨i, rfl, hil, rfl, hO, Bx, q, zW9⟩ := hrel
      have hcnt := Nat.le_trans (manyT_le x.table (os.take i)) (show (os.take i).length ≤ os.length by rw [List.length_take]; omega)
      rcases Nat.lt_or_ge i os.length with hlt | hge
      · obtain ⟨b, off, KA, KC, VA, VC, rfl, hb, c0, c1, c2, c3, hk1, hk2, ht⟩ := hO.rdL.sp i hlt
        have hmt := Lib.hid (manyT_snoc (t := x.table) hlt)
        obtain ⟨s, es⟩ : ∃ s, s = os[i] := ⟨_, rfl⟩
        obtain ⟨mk, emk⟩ : ∃ mk, mk = manyT x.table (os.take i) := ⟨_, rfl⟩
        rw [← es] at c0 hmt
        rw [← emk] at hmt hcnt
        rw [← emk]
        clear es emk hk1 hk2 ht hb c1 c2 c3
        have d0 : decide ((i : Int) < (os.length : Int)) = true := decide_eq_true (by omega)
        go_upto_region 22 with (fail)
        refine wp_region_gsg (by kernel_rfl) (by kernel_rfl) [sgEq (.slice (some ⟨b, off, none⟩) os.length c9), sgEq (.int .i64 (i : Nat)), sgEq (.pointer (some ⟨b, off + i * 4, none⟩)), sgEq (.pointer (some ⟨b, off + i * 4, none⟩)), sgEq (.int .i64 s.table), sgEq (.pointer (some ⟨w.heap.size, 0, none⟩)), sgEq (.int .i64 x.table), sgEq (.bool (decide (s.table = x.table)))]
          ⟨?o0, ?o1, ?o2, ?o3, ?o4, ?o5, ?o6, ?o7, trivial⟩ ?fin
        case o0 =>
          refine GdOp.plain rfl (fun A vs w' hF hT hb hd => ?_)
          have e1 : A.eval (.tmp 10) = .slice (some ⟨b, off, none⟩) os.length c9 := hF 10 rfl
          exact BigFrame.wp_move _ rfl ⟨_, rfl, e1, Below.refl _ _⟩
        case o1 =>
          refine GdOp.plain rfl (fun A vs w' hF hT hb hd => ?_)
          have e1 : A.eval (.tmp 15) = .int .i64 (i : Nat) := hF 15 rfl
          exact BigFrame.wp_move _ rfl ⟨_, rfl, e1, Below.refl _ _⟩
        case o2 =>
          refine GdOp.plain rfl (fun A vs w' hF hT hb hd => ?_)
          have e1 : A.eval (.tmp 83) = .slice (some ⟨b, off, none⟩) os.length c9 := (hT 83 0 (by simp) rfl).trans (hd ⟨0, .data⟩ (by simp) rfl)
          have e2 : A.eval (.tmp 84) = .int .i64 (i : Nat) := (hT 84 1 (by simp) rfl).trans (hd ⟨1, .data⟩ (by simp) rfl)
          exact wp_ixN (e := 25) rfl (by kernel_rfl) (by kernel_rfl) (e1) (e2) rfl (by omega) ⟨_, rfl, rfl, Below.refl _ _⟩
        case o3 =>
          refine GdOp.plain rfl (fun A vs w' hF hT hb hd => ?_)
          have e1 : A.eval (.tmp 85) = .pointer (some ⟨b, off + i * 4, none⟩) := (hT 85 2 (by simp) rfl).trans (hd ⟨2, .data⟩ (by simp) rfl)
          exact wp_fieldN spS rfl (e1) (by omega) ⟨_, rfl, rfl, Below.refl _ _⟩
        case o4 =>
          refine GdOp.plain rfl (fun A vs w' hF hT hb hd => ?_)
          have e1 : A.eval (.tmp 86) = .pointer (some ⟨b, off + i * 4, none⟩) := (hT 86 3 (by simp) rfl).trans (hd ⟨3, .data⟩ (by simp) rfl)
          exact wp_ld_int (k := .i64) rfl e1 (by kernel_rfl) (((hb.cell (p := ⟨_, _, none⟩) (cell_lt c0)).trans c0)) ⟨_, rfl, rfl, Below.refl _ _⟩
        case o5 =>
          refine GdOp.plain rfl (fun A vs w' hF hT hb hd => ?_)
          have e1 : A.eval (.tmp 4) = .pointer (some ⟨w.heap.size, 0, none⟩) := hF 4 rfl
          exact wp_fieldN spS rfl (e1) (by omega) ⟨_, rfl, rfl, Below.refl _ _⟩
        case o6 =>
          refine GdOp.plain rfl (fun A vs w' hF hT hb hd => ?_)
          have e1 : A.eval (.tmp 88) = .pointer (some ⟨w.heap.size, 0, none⟩) := (hT 88 5 (by simp) rfl).trans (hd ⟨5, .data⟩ (by simp) rfl)
          exact wp_ld_int (k := .i64) rfl e1 (by kernel_rfl) ((Bx.below hb Bx.lt).cell (i := 0) rfl) ⟨_, rfl, rfl, Below.refl _ _⟩
        case o7 =>
          refine GdOp.plain rfl (fun A vs w' hF hT hb hd => ?_)
          have e1 : A.eval (.tmp 87) = .int .i64 s.table := (hT 87 4 (by simp) rfl).trans (hd ⟨4, .data⟩ (by simp) rfl)
          have e2 : A.eval (.tmp 89) = .int .i64 x.table := (hT 89 6 (by simp) rfl).trans (hd ⟨6, .data⟩ (by simp) rfl)
          exact wp_eqlI rfl e1 e2 ⟨_, rfl, rfl, Below.refl _ _⟩
        case fin =>
        intro vs9 W9 hb9 hG9
        have e0 : vs9 0 = .slice (some ⟨b, off, none⟩) os.length c9 := hG9 0 (by decide)
        have e1 : vs9 1 = .int .i64 (i : Nat) := hG9 1 (by decide)
        have e2 : vs9 2 = .pointer (some ⟨b, off + i * 4, none⟩) := hG9 2 (by decide)
        have e3 : vs9 3 = .pointer (some ⟨b, off + i * 4, none⟩) := hG9 3 (by decide)
        have e4 : vs9 4 = .int .i64 s.table := hG9 4 (by decide)
        have e5 : vs9 5 = .pointer (some ⟨w.heap.size, 0, none⟩) := hG9 5 (by decide)
        have e6 : vs9 6 = .int .i64 x.table := hG9 6 (by decide)
        have e7 : vs9 7 = .bool (decide (s.table = x.table)) := hG9 7 (by decide)
        simp only [putAll, e0, e1, e2, e3, e4, e5, e6, e7]
        clear hG9 e0 e1 e2 e3 e4 e5 e6 e7
        replace Bx := Bx.below hb9 Bx.lt
        replace hO := hO.below hb9
        replace q := q.trans (hb9.mono q.size)
        replace zW9 := Nat.le_trans zW9 hb9.size
        clear hb9
        go_simp
        by_cases hst : s.table = x.table
        · rw [decide_eq_true hst]
          have hm2 := Lib.hid (show manyT x.table (os.take (i + 1)) = mk + 1 by rw [hmt.out, if_pos hst])
          clear hst hmt c0
          go_wp2_with fail
          go_roundw
          case rel => exact ⟨i + 1, by go_num, by omega, by rw [hm2.out]; go_num, hO, Bx, q, zW9⟩
          case measure => simp [intOf]; omega
        · rw [decide_eq_false hst]
          have hm2 := Lib.hid (show manyT x.table (os.take (i + 1)) = mk by rw [hmt.out, if_neg hst]; rfl)
          clear hst hmt c0
          go_wp2_with fail
          go_roundw
          case rel => exact ⟨i + 1, by go_num, by omega, by rw [hm2.out], hO, Bx, q, zW9⟩
          case measure => simp [intOf]; omega
      · obtain rfl : i = os.length := by omega
        rw [List.take_length] at hcnt
        rw [List.take_length]
        have d0 : decide ((os.length : Int) < (os.length : Int)) = false := decide_eq_false (by omega)
        by_cases hmm : (manyT x.table os : Int) ≤ m
        · have d1 : decide ((manyT x.table os : Int) ≤ m) = true := decide_eq_true hmm
          have H2 := Lib.hid (H.out.trans (if_pos hmm))
          clear hmm H
          go_wp2_with fail
          refine (rCopy_any _ hO.rdL hsmo).mono ?_
          rintro e w9 ⟨a', c', rfl, hO', hb2⟩
          go_wp2_with fail
          go_ret2
          rw [H2.out]
          exact ⟨_, _, _, rfl, hO'.to q.size q.size, q.trans (hb2.mono q.size)⟩
        have d1 : decide ((manyT x.table os : Int) ≤ m) = false := decide_eq_false hmm
        have H2 := Lib.hid (H.out.trans (if_neg hmm))
        clear hmm H hcnt
        obtain ⟨B2, hB2⟩ : ∃ B, B = wr.heap.size := ⟨_, rfl⟩
        have rO : RdL Elt.sp (fun k => k < B2) wr (.slice ad9 os.length c9) os := hO.rdL.weak fun k hk => by rw [hB2]; exact hk.2
        have zB : w.heap.size < B2 := by omega
        have zBw : B2 ≤ wr.heap.size := Nat.le_of_eq hB2
        clear hO hB2
        go_upto_region 29 with (fail)
        clear d0 d1
        go_loopw [16, 17, 18] (fun ov dv iv wr => ∃ (i : Nat) (ad2 : Option Addr) (k2 : Nat), iv = .int .i64 (i : Int) ∧ i ≤ os.length ∧ dv = .bool (hasT x.table (os.take i)) ∧ ov = .slice ad2 (oneT x.table false (os.take i)).length k2 ∧ OwnL Elt.sp 25 B2 0 wr (.slice ad2 (oneT x.table false (os.take i)).length k2) (oneT x.table false (os.take i)) ∧ RdL Elt.sp (fun k => k < B2) wr (.slice ad9 os.length c9) os ∧ BoxN wr w.heap.size 25 [.int .i64 x.table, .slice p1 x.lo.length p2, .slice p3 x.hi.length p4, .bool x.isOpen] ∧ Below w.heap.size w wr ∧ B2 ≤ wr.heap.size)
          (fun _ _ i _ => os.length - (intOf i).toNat)
        case atStart => exact ⟨0, none, 0, rfl, Nat.zero_le _, rfl, rfl, OwnL.nil _ _ _ _ _, rO, Bx, q, zBw⟩
        case round =>
        clear rO Bx q zBw zW9
        obtain ⟨i, ad2, k2, rfl, hil, rfl, rfl, hO, rO, Bx, q, zW9⟩ := hrel
        rcases Nat.lt_or_ge i os.length with hlt | hge
        · obtain ⟨b, off, KA, KC, VA, VC, rfl, hb, c0, c1, c2, c3, hk1, hk2, ht⟩ := rO.sp i hlt
          have hsn := Lib.hid (oneT_snoc (t := x.table) hlt)
          have hhs := Lib.hid (hasT_snoc (t := x.table) hlt)
          have hyl : (oneT x.table false (os.take i)).length ≤ 800001 := Nat.le_trans (oneT_le _ _ _) (by rw [List.length_take]; omega)
          obtain ⟨s, es⟩ : ∃ s, s = os[i] := ⟨_, rfl⟩
          obtain ⟨ys, eys⟩ : ∃ ys, ys = oneT x.table false (os.take i) := ⟨_, rfl⟩
          obtain ⟨dn, edn⟩ : ∃ dn, dn = hasT x.table (os.take i) := ⟨_, rfl⟩
          rw [← es] at c0 c1 c2 c3 hk1 hk2 ht hsn hhs
          rw [← eys] at hO hsn hyl
          rw [← edn] at hsn hhs
          rw [← eys, ← edn]
          clear es eys edn
          have hss : RdSp (fun k => k < B2) wr (.agg #[.int .i64 s.table, .slice KA s.lo.length KC, .slice VA s.hi.length VC, .bool s.isOpen]) s := ⟨_, _, _, _, rfl, hk1, hk2, ht⟩
          clear hk1 hk2 ht hb
          have d0 : decide ((i : Int) < (os.length : Int)) = true := decide_eq_true (by omega)
          go_upto_region 31 with (fail)
          refine wp_region_gsg (by kernel_rfl) (by kernel_rfl) [sgEq (.slice (some ⟨b, off, none⟩) os.length c9), sgEq (.int .i64 (i : Nat)), sgEq (.pointer (some ⟨b, off + i * 4, none⟩)), sgEq (.pointer (some ⟨b, off + i * 4, none⟩)), sgEq (.int .i64 s.table), sgEq (.pointer (some ⟨w.heap.size, 0, none⟩)), sgEq (.int .i64 x.table), sgEq (.bool (decide (s.table ≠ x.table)))]
            ⟨?o0, ?o1, ?o2, ?o3, ?o4, ?o5, ?o6, ?o7, trivial⟩ ?fin
          case o0 =>
            refine GdOp.plain rfl (fun A vs w' hF hT hb hd => ?_)
            have e1 : A.eval (.tmp 10) = .slice (some ⟨b, off, none⟩) os.length c9 := hF 10 rfl
            exact BigFrame.wp_move _ rfl ⟨_, rfl, e1, Below.refl _ _⟩
          case o1 =>
            refine GdOp.plain rfl (fun A vs w' hF hT hb hd => ?_)
            have e1 : A.eval (.tmp 18) = .int .i64 (i : Nat) := hF 18 rfl
            exact BigFrame.wp_move _ rfl ⟨_, rfl, e1, Below.refl _ _⟩
          case o2 =>
            refine GdOp.plain rfl (fun A vs w' hF hT hb hd => ?_)
            have e1 : A.eval (.tmp 104) = .slice (some ⟨b, off, none⟩) os.length c9 := (hT 104 0 (by simp) rfl).trans (hd ⟨0, .data⟩ (by simp) rfl)
            have e2 : A.eval (.tmp 105) = .int .i64 (i : Nat) := (hT 105 1 (by simp) rfl).trans (hd ⟨1, .data⟩ (by simp) rfl)
            exact wp_ixN (e := 25) rfl (by kernel_rfl) (by kernel_rfl) (e1) (e2) rfl (by omega) ⟨_, rfl, rfl, Below.refl _ _⟩
          case o3 =>
            refine GdOp.plain rfl (fun A vs w' hF hT hb hd => ?_)
            have e1 : A.eval (.tmp 106) = .pointer (some ⟨b, off + i * 4, none⟩) := (hT 106 2 (by simp) rfl).trans (hd ⟨2, .data⟩ (by simp) rfl)
            exact wp_fieldN spS rfl (e1) (by omega) ⟨_, rfl, rfl, Below.refl _ _⟩
          case o4 =>
            refine GdOp.plain rfl (fun A vs w' hF hT hb hd => ?_)
            have e1 : A.eval (.tmp 107) = .pointer (some ⟨b, off + i * 4, none⟩) := (hT 107 3 (by simp) rfl).trans (hd ⟨3, .data⟩ (by simp) rfl)
            exact wp_ld_int (k := .i64) rfl e1 (by kernel_rfl) (((hb.cell (p := ⟨_, _, none⟩) (cell_lt c0)).trans c0)) ⟨_, rfl, rfl, Below.refl _ _⟩
          case o5 =>
            refine GdOp.plain rfl (fun A vs w' hF hT hb hd => ?_)
            have e1 : A.eval (.tmp 4) = .pointer (some ⟨w.heap.size, 0, none⟩) := hF 4 rfl
            exact wp_fieldN spS rfl (e1) (by omega) ⟨_, rfl, rfl, Below.refl _ _⟩
          case o6 =>
            refine GdOp.plain rfl (fun A vs w' hF hT hb hd => ?_)
            have e1 : A.eval (.tmp 109) = .pointer (some ⟨w.heap.size, 0, none⟩) := (hT 109 5 (by simp) rfl).trans (hd ⟨5, .data⟩ (by simp) rfl)
            exact wp_ld_int (k := .i64) rfl e1 (by kernel_rfl) ((Bx.below hb Bx.lt).cell (i := 0) rfl) ⟨_, rfl, rfl, Below.refl _ _⟩
          case o7 =>
            refine GdOp.plain rfl (fun A vs w' hF hT hb hd => ?_)
            have e1 : A.eval (.tmp 108) = .int .i64 s.table := (hT 108 4 (by simp) rfl).trans (hd ⟨4, .data⟩ (by simp) rfl)
            have e2 : A.eval (.tmp 110) = .int .i64 x.table := (hT 110 6 (by simp) rfl).trans (hd ⟨6, .data⟩ (by simp) rfl)
            exact wp_neqI rfl e1 e2 ⟨_, rfl, rfl, Below.refl _ _⟩
          case fin =>
          intro vs9 W9 hb9 hG9
          have e0 : vs9 0 = .slice (some ⟨b, off, none⟩) os.length c9 := hG9 0 (by decide)
          have e1 : vs9 1 = .int .i64 (i : Nat) := hG9 1 (by decide)
          have e2 : vs9 2 = .pointer (some ⟨b, off + i * 4, none⟩) := hG9 2 (by decide)
          have e3 : vs9 3 = .pointer (some ⟨b, off + i * 4, none⟩) := hG9 3 (by decide)
          have e4 : vs9 4 = .int .i64 s.table := hG9 4 (by decide)
          have e5 : vs9 5 = .pointer (some ⟨w.heap.size, 0, none⟩) := hG9 5 (by decide)
          have e6 : vs9 6 = .int .i64 x.table := hG9 6 (by decide)
          have e7 : vs9 7 = .bool (decide (s.table ≠ x.table)) := hG9 7 (by decide)
          simp only [putAll, e0, e1, e2, e3, e4, e5, e6, e7]
          clear hG9 e0 e1 e2 e3 e4 e5 e6 e7
          replace Bx := Bx.below hb9 Bx.lt
          replace hO := hO.below hb9
          replace rO := rO.below hb9
          replace hss := hss.below hb9
          replace c0 := (hb9.cell (p := ⟨_, _, none⟩) (cell_lt c0)).trans c0
          replace c1 := (hb9.cell (p := ⟨_, _, none⟩) (cell_lt c1)).trans c1
          replace c2 := (hb9.cell (p := ⟨_, _, none⟩) (cell_lt c2)).trans c2
          replace c3 := (hb9.cell (p := ⟨_, _, none⟩) (cell_lt c3)).trans c3
          replace q := q.trans (hb9.mono q.size)
          replace zW9 := Nat.le_trans zW9 hb9.size
          clear hb9
          go_simp
          by_cases hst : s.table = x.table
          · rw [decide_eq_true hst, Bool.not_true]
            cases hdn : dn with
            | true =>
              have hn2 := Lib.hid (show oneT x.table false (os.take (i + 1)) = ys by rw [hsn.out, if_pos hst, hdn]; simp)
              have hh2 := Lib.hid (show hasT x.table (os.take (i + 1)) = true by rw [hhs.out, hdn]; rfl)
              clear hst hsn hhs hss c0 c1 c2 c3 hdn
              go_wp2_with fail
              go_roundw
              case rel => exact ⟨i + 1, ad2, k2, by go_num, by omega, by rw [hh2.out], by rw [hn2.out], by rw [hn2.out]; exact hO, rO, Bx, q, zW9⟩
              case measure => simp [intOf]; omega
            | false =>
              have hn2 := Lib.hid (show oneT x.table false (os.take (i + 1)) = ys ++ [allS x.table] by rw [hsn.out, if_pos hst, hdn]; simp)
              have hh2 := Lib.hid (show hasT x.table (os.take (i + 1)) = true by rw [hhs.out, decide_eq_true hst]; simp)
              clear hst hsn hhs hss c0 c1 c2 c3 hdn
              have hrr : ∀ k, Value.ownBlock (.slice ad2 ys.length k2) = some k → B2 ≤ k ∧ k < W9.heap.size := fun k hk => hO.block_lt k hk
              have c0 := Bx.cell (i := 0) rfl
              have hR : Elt.sp.R (fun k => k < B2) W9 (allS x.table) [.int .i64 x.table, .slice none 0 0, .slice none 0 0, .bool true] := ⟨_, _, rfl, RdS.nil _ _, RdS.nil _ _, htx⟩
              go_wp2_with (first
                | (refine wpList_buildOne spP rfl rfl rfl (us := [.int .i64 x.table, .slice none 0 0, .slice none 0 0, .bool true]) rfl rfl (by decide) (by decide) ?_; intro w5 hb5 hrow)
                | (refine wpList_apvRow (E := Elt.sp) (n := ys.length + 1) spP rfl rfl rfl rfl (hO.below hb5) hrow (Elt.below hR hb5) (fun k hk => ⟨Nat.zero_le _, Nat.lt_of_lt_of_le hk (Nat.le_trans zW9 hb5.size), fun e => by have := hrr k e.symm; omega⟩) (Nat.le_trans zW9 hb5.size) (by omega) rfl ?_; intro ad8 c8 w6 hO9 hg6 _)
                | fail)
              have q5 := q.trans (hb5.mono q.size)
              have q9 := q5.grown hg6 q5.size fun k hk => by have := hrr k hk; omega
              have Bx9 := (Bx.below hb5 Bx.lt).other hg6 fun e => by have := hrr _ e; omega
              have z9 := Nat.le_trans zW9 (Nat.le_trans hb5.size hg6.size)
              have rO9 : RdL Elt.sp (fun k => k < B2) w6 (.slice (some ⟨b, off, none⟩) os.length c9) os := (rO.below hb5).grownR hg6 fun k hk h => by have := hrr k hk; omega
              have hL9 := Lib.hid (show ys.length + 1 = (oneT x.table false (os.take (i + 1))).length by rw [hn2.out]; simp)
              clear hO hR q q5 hg6 hrow hb5 Bx zW9 rO
              go_roundw
              case rel =>
                have e := hL9.out
                rw [e, ← hn2.out] at hO9
                rw [e]
                exact ⟨i + 1, ad8, c8, by go_num, by omega, by rw [hh2.out], rfl, hO9, rO9, Bx9, q9, z9⟩
              case measure => simp [intOf]; omega
          · rw [decide_eq_false hst, Bool.not_false]
            have hn2 := Lib.hid (show oneT x.table false (os.take (i + 1)) = ys ++ [s] by rw [hsn.out, if_neg hst])
            have hh2 := Lib.hid (show hasT x.table (os.take (i + 1)) = dn by rw [hhs.out, decide_eq_false hst]; simp)
            clear hst hsn hhs
            have hrr : ∀ k, Value.ownBlock (.slice ad2 ys.length k2) = some k → B2 ≤ k ∧ k < W9.heap.size := fun k hk => hO.block_lt k hk
            have hR := rdSp_R hss
            go_wp2_with (first
              | (refine wpList_buildOne spP rfl rfl rfl (us := [.int .i64 s.table, .slice KA s.lo.length KC, .slice VA s.hi.length VC, .bool s.isOpen]) rfl rfl (by decide) (by decide) ?_; intro w5 hb5 hrow)
              | (refine wpList_apvRow (E := Elt.sp) (n := ys.length + 1) spP rfl rfl rfl rfl (hO.below hb5) hrow (Elt.below hR hb5) (fun k hk => ⟨Nat.zero_le _, Nat.lt_of_lt_of_le hk (Nat.le_trans zW9 hb5.size), fun e => by have := hrr k e.symm; omega⟩) (Nat.le_trans zW9 hb5.size) (by omega) rfl ?_; intro ad8 c8 w6 hO9 hg6 _)
              | fail)
            have q5 := q.trans (hb5.mono q.size)
            have q9 := q5.grown hg6 q5.size fun k hk => by have := hrr k hk; omega
            have Bx9 := (Bx.below hb5 Bx.lt).other hg6 fun e => by have := hrr _ e; omega
            have z9 := Nat.le_trans zW9 (Nat.le_trans hb5.size hg6.size)
            have rO9 : RdL Elt.sp (fun k => k < B2) w6 (.slice (some ⟨b, off, none⟩) os.length c9) os := (rO.below hb5).grownR hg6 fun k hk h => by have := hrr k hk; omega
            have hL9 := Lib.hid (show ys.length + 1 = (oneT x.table false (os.take (i + 1))).length by rw [hn2.out]; simp)
            clear hO hR q q5 hg6 hrow hb5 Bx zW9 rO
            go_roundw
            case rel =>
              have e := hL9.out
              rw [e, ← hn2.out] at hO9
              rw [e]
              exact ⟨i + 1, ad8, c8, by go_num, by omega, by rw [hh2.out], rfl, hO9, rO9, Bx9, q9, z9⟩
            case measure => simp [intOf]; omega
        · obtain rfl : i = os.length := by omega
          rw [List.take_length] at hO
          rw [List.take_length]
          have d0 : decide ((os.length : Int) < (os.length : Int)) = false := decide_eq_false (by omega)
          have hsm1 : smL (oneT x.table false os) := ⟨by have := oneT_le x.table false os; omega, fun y hy => (oneT_mem x.table false os y hy).elim (fun h => hsmo.2 y h) fun h => by rw [h]; exact ⟨Nat.zero_le _, Nat.zero_le _⟩⟩
          go_wp2_with fail
          refine (rCopy_any _ hO.rdL hsm1).mono ?_
          rintro e w9 ⟨a', c', rfl, hO', hb2⟩
          go_wp2_with fail
          go_ret2
          rw [H2.out]
          exact ⟨_, _, _, rfl, hO'.to q.size q.size, q.trans (hb2.mono q.size)⟩
end Go.Proofs.Ytmcleffpjfeegaa
namespace Go.Proofs.Ytmcleffpjfeegaa
open Go.RowKit Go.Shelf
section
variable {ops : Array Oper} {rest : List Oper} {o : Oper} {a : Act} {Q : Exit → Act → World → Prop} {w : World}
theorem wpList_byte1 (hP : ByP Try.prog 23 5 9) {o' : Oper} {k : Int} {d : Tmp} (ho : o.op = .buildSlice 23 1 #[(0, .const (.int .u8 k))]) (hgd' : ∀ u, Region.wanted o' (yielded ops (a.put o.dst u).tmps) = true) (hgd : Region.wanted o (yielded ops a.tmps) = true) (hd : o.dst = some d) (hlt : d < a.tmps.size)
    (ho' : o'.op = .convert 23 23 (.tmp d)) (hk : 0 ≤ k ∧ k < 256)
    (h : ∀ u g n w', Below w.heap.size w w' → Rd w'.heap.size w' (.slice (some ⟨g, 0, none⟩) n n) [UInt8.ofNat k.toNat] → wpList Try.prog ops Q rest ((a.put (some d) u).put o'.dst (.slice (some ⟨g, 0, none⟩) n n)) w') : wpList Try.prog ops Q (o :: o' :: rest) a w :=
  wpList_const hP ho hgd' hgd hd hlt ho' [UInt8.ofNat k.toNat] (by
    simp [bv, Act.eval]
    omega) rfl (by simp) h
end
theorem RdL.made {α : Type} {E : Elt α} {S : Nat → Prop} {w : World} {x : α} {us : List Value} {b : Nat} {t : TypeId} (hx : E.R S w x us) (hrow : w.heap[b]? = some (.cells us.toArray t (0, 0))) (hS : S b) : RdL E S w (.slice (some ⟨b, 0, none⟩) 1 1) [x] :=
  ⟨_, 1, rfl, Nat.le_refl _, by unfold maxLen; omega, .inr ⟨b, 0, rfl, hS, fun r h => by
    obtain rfl : r = 0 := by simpa using h
    exact ⟨us, hx, fun j u hj => by simp [World.cell?, hrow, hj]⟩⟩⟩
end Go.Proofs.Ytmcleffpjfeegaa
namespace Go.Proofs.Ytmcleffpjfeegaa
open Go.RowKit Go.Shelf
def FndA {α : Type} (p : α → Bool) (l : List α) (v : Int) : Prop := (v = -1 ∧ ∀ y ∈ l, p y = false) ∨ ∃ (j : Nat) (h : j < l.length), v = (j : Int) ∧ p l[j] = true ∧ ∀ y ∈ l.take j, p y = false
theorem fndA_any {α : Type} {p : α → Bool} {l : List α} {i : Int} (h : FndA p l i) : decide (0 ≤ i) = l.any p := by
  rcases h with ⟨h1, h2⟩ | ⟨j, h1, h2, h3, _⟩
  · rw [decide_eq_false (by omega), List.any_eq_false.2 fun x hx => by simp [h2 x hx]]
  · rw [decide_eq_true (by omega), List.any_eq_true.2 ⟨_, List.getElem_mem h1, h3⟩]
def TellsS (F : FuncId) (bs caps : Array Value) (S : Nat → Prop) (w : World) (p : Sp → Bool) : Prop :=
  ∀ (W : World) (v : Value) (x : Sp), Below w.heap.size w W → RdSp S W v x → Calls Try.prog F (bs ++ #[v] ++ caps) W fun e W' => e = .returned (.bool (p x)) ∧ Below W.heap.size W W'
set_option maxRecDepth 100000 in
set_option maxHeartbeats 4000000 in
theorem indexS_any (w : World) {S : Nat → Prop} {a : Option Addr} {n c : Nat} {l : List Sp} (hl : RdL Elt.sp S w (.slice a n c) l) (F : FuncId) (bs caps : Array Value) (hE : Enters Try.prog F) (p : Sp → Bool) (hF : TellsS F bs caps S w p) :
    Calls Try.prog 58 #[.slice a n c, .func (.func F) bs caps] w fun e w' => ∃ i : Int, e = .returned (.int .i64 i) ∧ FndA p l i ∧ Below w.heap.size w w' := by
  obtain ⟨rfl, hnc, hcm⟩ := hl.len
  have hlm : l.length ≤ 9223372036854775807 := by unfold maxLen at hcm; omega
  have hEE := hE
  unfold Enters at hEE
  have q := Below.refl w.heap.size w
  go_enter Try.func58, Try.ntmps58
  go_upto_region 2 with (fail)
  go_loopw [5, 8] (fun _ iv wr => ∃ (k : Nat), iv = .int .i64 k ∧ k ≤ l.length ∧ (∀ x ∈ l.take k, p x = false) ∧ Below w.heap.size w wr)
    (fun _ i _ => l.length - (intOf i).toNat)
  case atStart => exact ⟨0, rfl, Nat.zero_le _, by simp, q⟩
  case round =>
    clear q
    obtain ⟨k, rfl, hkl, hall, q⟩ := hrel
    replace hall := Lib.hid hall
    rcases Nat.lt_or_ge k l.length with hlt | hge
    · obtain ⟨b, off, A, C, A2, C2, rfl, hb, c0, c1, c2, c3, hk1, hk2, hw64⟩ := (hl.below q).sp k hlt
      have hw : RdSp S wr (.agg #[.int .i64 l[k].table, .slice A l[k].lo.length C, .slice A2 l[k].hi.length C2, .bool l[k].isOpen]) l[k] := ⟨A, C, A2, C2, rfl, hk1, hk2, hw64⟩
      go_upto_region 4 with (fail)
      go_wp2_with fail
      refine (hF wr _ _ q hw).mono ?_
      rintro e w1 ⟨rfl, hb1⟩
      replace q := q.trans (hb1.mono q.size)
      clear c0 c1 c2 c3 hk1 hk2 hw
      cases hm : p l[k] with
      | false =>
        have hall2 := Lib.hid (show ∀ x ∈ l.take (k + 1), p x = false from fun x hx => by
          rw [List.take_succ_eq_append_getElem hlt] at hx
          rcases List.mem_append.1 hx with h | h
          · exact hall.out x h
          · simp at h; rw [h]; exact hm)
        clear hall hm
        go_wp2_with fail
        go_roundw
        case rel => exact ⟨k + 1, by go_num, by omega, hall2.out, q⟩
        case measure => simp [intOf]; omega
      | true =>
        replace hm := Lib.hid hm
        go_wp2_with fail
        go_ret
        exact ⟨_, rfl, .inr ⟨k, hlt, rfl, hm.out, hall.out⟩, q⟩
    · obtain rfl : k = l.length := by omega
      have hno := Lib.hid (show ∀ x ∈ l, p x = false from fun x hx => hall.out x (by rw [List.take_length]; exact hx))
      clear hall
      go_wp2_with fail
      go_ret
      exact ⟨_, rfl, .inl ⟨rfl, hno.out⟩, q⟩
set_option maxRecDepth 100000 in
set_option maxHeartbeats 4000000 in
theorem containsS_any (w : World) {S : Nat → Prop} {a : Option Addr} {n c : Nat} {l : List Sp} (hl : RdL Elt.sp S w (.slice a n c) l) (F : FuncId) (bs caps : Array Value) (hE : Enters Try.prog F) (p : Sp → Bool) (hF : TellsS F bs caps S w p) :
    Calls Try.prog 31 #[.slice a n c, .func (.func F) bs caps] w fun e w' => e = .returned (.bool (l.any p)) ∧ Below w.heap.size w w' := by
  go_enter Try.func31, Try.ntmps31
  go_wp2_with fail
  refine (indexS_any w hl F bs caps hE p hF).mono ?_
  rintro e w1 ⟨i, rfl, hi, hb⟩
  have hd := Lib.hid (fndA_any hi)
  clear hi
  go_wp2_with fail
  go_ret
  exact ⟨by first | (rw [hd.out]; done) | (rw [← hd.out]; rfl), hb⟩
def TellsW (F : FuncId) (bs caps : Array Value) (S : Nat → Prop) (w : World) (p : Wr → Bool) : Prop :=
  ∀ (W : World) (v : Value) (x : Wr), Below w.heap.size w W → RdWr S W v x → Calls Try.prog F (bs ++ #[v] ++ caps) W fun e W' => e = .returned (.bool (p x)) ∧ Below W.heap.size W W'
set_option maxRecDepth 100000 in
set_option maxHeartbeats 4000000 in
theorem indexW_any (w : World) {S : Nat → Prop} {a : Option Addr} {n c : Nat} {l : List Wr} (hl : RdL Elt.wr S w (.slice a n c) l) (F : FuncId) (bs caps : Array Value) (hE : Enters Try.prog F) (p : Wr → Bool) (hF : TellsW F bs caps S w p) :
    Calls Try.prog 60 #[.slice a n c, .func (.func F) bs caps] w fun e w' => ∃ i : Int, e = .returned (.int .i64 i) ∧ FndA p l i ∧ Below w.heap.size w w' := by
  obtain ⟨rfl, hnc, hcm⟩ := hl.len
  have hlm : l.length ≤ 9223372036854775807 := by unfold maxLen at hcm; omega
  have hEE := hE
  unfold Enters at hEE
  have q := Below.refl w.heap.size w
  go_enter Try.func60, Try.ntmps60
  go_upto_region 2 with (fail)
  go_loopw [5, 8] (fun _ iv wr => ∃ (k : Nat), iv = .int .i64 k ∧ k ≤ l.length ∧ (∀ x ∈ l.take k, p x = false) ∧ Below w.heap.size w wr)
    (fun _ i _ => l.length - (intOf i).toNat)
  case atStart => exact ⟨0, rfl, Nat.zero_le _, by simp, q⟩
  case round =>
    clear q
    obtain ⟨k, rfl, hkl, hall, q⟩ := hrel
    replace hall := Lib.hid hall
    rcases Nat.lt_or_ge k l.length with hlt | hge
    · obtain ⟨b, off, A, C, A2, C2, rfl, hb, c0, c1, c2, c3, hk1, hk2, hw64⟩ := (hl.below q).wr k hlt
      have hw : RdWr S wr (.agg #[.int .i64 l[k].table, .slice A l[k].key.length C, .bool l[k].gone, .slice A2 l[k].val.length C2]) l[k] := ⟨A, C, A2, C2, rfl, hk1, hk2, hw64⟩
      go_upto_region 4 with (fail)
      go_wp2_with fail
      refine (hF wr _ _ q hw).mono ?_
      rintro e w1 ⟨rfl, hb1⟩
      replace q := q.trans (hb1.mono q.size)
      clear c0 c1 c2 c3 hk1 hk2 hw
      cases hm : p l[k] with
      | false =>
        have hall2 := Lib.hid (show ∀ x ∈ l.take (k + 1), p x = false from fun x hx => by
          rw [List.take_succ_eq_append_getElem hlt] at hx
          rcases List.mem_append.1 hx with h | h
          · exact hall.out x h
          · simp at h; rw [h]; exact hm)
        clear hall hm
        go_wp2_with fail
        go_roundw
        case rel => exact ⟨k + 1, by go_num, by omega, hall2.out, q⟩
        case measure => simp [intOf]; omega
      | true =>
        replace hm := Lib.hid hm
        go_wp2_with fail
        go_ret
        exact ⟨_, rfl, .inr ⟨k, hlt, rfl, hm.out, hall.out⟩, q⟩
    · obtain rfl : k = l.length := by omega
      have hno := Lib.hid (show ∀ x ∈ l, p x = false from fun x hx => hall.out x (by rw [List.take_length]; exact hx))
      clear hall
      go_wp2_with fail
      go_ret
      exact ⟨_, rfl, .inl ⟨rfl, hno.out⟩, q⟩
set_option maxRecDepth 100000 in
set_option maxHeartbeats 4000000 in
theorem containsW_any (w : World) {S : Nat → Prop} {a : Option Addr} {n c : Nat} {l : List Wr} (hl : RdL Elt.wr S w (.slice a n c) l) (F : FuncId) (bs caps : Array Value) (hE : Enters Try.prog F) (p : Wr → Bool) (hF : TellsW F bs caps S w p) :
    Calls Try.prog 34 #[.slice a n c, .func (.func F) bs caps] w fun e w' => e = .returned (.bool (l.any p)) ∧ Below w.heap.size w w' := by
  go_enter Try.func34, Try.ntmps34
  go_wp2_with fail
  refine (indexW_any w hl F bs caps hE p hF).mono ?_
  rintro e w1 ⟨i, rfl, hi, hb⟩
  have hd := Lib.hid (fndA_any hi)
  clear hi
  go_wp2_with fail
  go_ret
  exact ⟨by first | (rw [hd.out]; done) | (rw [← hd.out]; rfl), hb⟩
set_option maxRecDepth 100000 in
set_option maxHeartbeats 4000000 in
theorem hit11_any (w : World) {S S2 : Nat → Prop} {v : Value} {s : Sp} {x : Wr} {xb : Nat} {a1 a3 : Option Addr} {a2 a4 : Nat} (hs : RdSp S w v s) (hB : BoxN w xb 43 [.int .i64 x.table, .slice a1 x.key.length a2, .bool x.gone, .slice a3 x.val.length a4]) (hk : RdS S2 w (.slice a1 x.key.length a2) x.key) :
    Calls Try.prog 32 #[v, .pointer (some ⟨xb, 0, none⟩)] w fun e w' => e = .returned (.bool (inT s x.table x.key)) ∧ Below w.heap.size w w' := by
  have hs0 := hs
  obtain ⟨s1, s2, s3, s4, rfl, _, _, _⟩ := hs
  obtain ⟨W, hW, q, Bs, hsz⟩ := spBox w 25 [.int .i64 s.table, .slice s1 s.lo.length s2, .slice s3 s.hi.length s4, .bool s.isOpen]
  clear hsz
  go_enter Try.func32, Try.ntmps32
  go_upto_region 1 with (fail)
  rw [show w.alloc (.cells #[.int .i64 s.table, .slice s1 s.lo.length s2, .slice s3 s.hi.length s4, .bool s.isOpen] 25) = W from hW.symm]
  clear hW
  have c0 := Bs.cell (i := 0) rfl
  have c1 := Bs.cell (i := 1) rfl
  have c2 := Bs.cell (i := 2) rfl
  have c3 := Bs.cell (i := 3) rfl
  have hB2 := hB.below q hB.lt
  have d0 := hB2.cell (i := 0) rfl
  have d1 := hB2.cell (i := 1) rfl
  have hcl := sIn_any W (t := x.table) (hs0.below q) (hk.below q)
  clear hs0 hB hB2
  go_wp2_with fail
  refine hcl.mono ?_
  rintro e w1 ⟨rfl, hb⟩
  clear c0 c1 c2 c3 d0 d1 hcl
  go_wp2_with fail
  go_ret
  exact ⟨rfl, q.trans (hb.mono q.size)⟩
set_option maxRecDepth 100000 in
set_option maxHeartbeats 4000000 in
theorem hit1_any (w : World) {S S2 : Nat → Prop} {v : Value} {x : Wr} {l : List Sp} {lb : Nat} {a : Option Addr} {c : Nat} (hx : RdWr S2 w v x) (hB : Boxed w lb 22 (.slice a l.length c)) (hl : RdL Elt.sp S w (.slice a l.length c) l) :
    Calls Try.prog 30 #[v, .pointer (some ⟨lb, 0, none⟩)] w fun e w' => e = .returned (.bool (l.any fun s => inT s x.table x.key)) ∧ Below w.heap.size w w' := by
  obtain ⟨a1, a2, a3, a4, rfl, hk, _, _⟩ := hx
  obtain ⟨W, hW, q, Bx, hsz⟩ := spBox w 43 [.int .i64 x.table, .slice a1 x.key.length a2, .bool x.gone, .slice a3 x.val.length a4]
  clear hsz
  go_enter Try.func30, Try.ntmps30
  go_upto_region 1 with (fail)
  rw [show w.alloc (.cells #[.int .i64 x.table, .slice a1 x.key.length a2, .bool x.gone, .slice a3 x.val.length a4] 43) = W from hW.symm]
  clear hW
  have hc := (q.cell (p := ⟨lb, 0, none⟩) (cell_lt hB.cell)).trans hB.cell
  have hcl := containsS_any W (hl.below q) 32 #[] #[.pointer (some ⟨w.heap.size, 0, none⟩)] (enters_of Try.func32 (by kernel_rfl) rfl) (fun s => inT s x.table x.key) (fun V _ _ hb hs => hit11_any V hs (Bx.below hb Bx.lt) ((hk.below q).below hb))
  clear hB
  go_wp2_with fail
  refine hcl.mono ?_
  rintro e w1 ⟨rfl, hb⟩
  clear hc hcl
  go_wp2_with fail
  go_ret
  exact ⟨rfl, q.trans (hb.mono q.size)⟩
set_option maxRecDepth 100000 in
set_option maxHeartbeats 4000000 in
theorem sHit_any (w : World) {S S2 : Nat → Prop} {a a2 : Option Addr} {n c n2 c2 : Nat} {l : List Sp} {ws : List Wr} (hl : RdL Elt.sp S w (.slice a n c) l) (hw : RdL Elt.wr S2 w (.slice a2 n2 c2) ws) :
    Calls Try.prog 16 #[.slice a n c, .slice a2 n2 c2] w fun e w' => e = .returned (.bool (hitL l ws)) ∧ Below w.heap.size w w' := by
  obtain ⟨rfl, _, _⟩ := hl.len
  obtain ⟨W, hW⟩ : ∃ W, W = w.alloc (.cells #[.slice a l.length c] 22) := ⟨_, rfl⟩
  have q : Below w.heap.size w W := by rw [hW]; exact (Below.refl _ _).alloc (Nat.le_refl _) _
  have hB : Boxed W w.heap.size 22 (.slice a l.length c) := by rw [hW]; exact Boxed.new _ _ _
  go_enter Try.func16, Try.ntmps16
  go_upto_region 2 with (fail)
  rw [← hW]
  clear hW
  have hcl := containsW_any W (hw.below q) 30 #[] #[.pointer (some ⟨w.heap.size, 0, none⟩)] (enters_of Try.func30 (by kernel_rfl) rfl) (fun x => l.any fun s => inT s x.table x.key) (fun V _ _ hb hx => hit1_any V hx ((hb.block _ hB.lt).trans hB) ((hl.below q).below hb))
  go_wp2_with fail
  refine hcl.mono ?_
  rintro e w1 ⟨rfl, hb⟩
  clear hcl
  go_wp2_with fail
  go_ret
  exact ⟨rfl, q.trans (hb.mono q.size)⟩
end Go.Proofs.Ytmcleffpjfeegaa
namespace Go.Proofs.Ytmcleffpjfeegaa
open Go.RowKit
section
variable {P : Program} {T E S : TypeId} {o : Oper} {a : Act} {K : Act → Prop} {w : World}
theorem quiet_conv (hP : ByP P T E S) {x : Operand} (ho : o.op = .convert T S x) {B : Nat} {v : Value} {xs : List UInt8} (hx : a.eval x = v) (hr : Rd B w v xs) (h : K (a.put o.dst (.string (strOf xs)))) : o.quiet P a (fun w'' => ∃ n, w'' = w.drewN n) K := by
  refine ⟨_, fun w2 h2 => ?_, h⟩
  obtain ⟨n, rfl⟩ := h2
  have hr2 : Rd B (w.drewN n) v xs := hr
  unfold Oper.quietAt execOp
  simp only [ho, hx, Sem.run_bind, Sem.run_pure, Result.andThen_ok, run_conv hP hr2]
  exact ⟨rfl, rfl⟩
end
end Go.Proofs.Ytmcleffpjfeegaa
namespace Go.Proofs.Ytmcleffpjfeegaa
open Go.RowKit Go.Shelf
theorem strOf_listD (xs : List UInt8) : (strOf xs).toList = xs := by simp [strOf]
theorem str_eqD {a b : List UInt8} : ((strOf a).toList == (strOf b).toList) = decide (a = b) := by
  rw [strOf_listD, strOf_listD]
  by_cases e : a = b <;> simp [e]
theorem take_both {α : Type} {l m : List α} {i : Nat} (h1 : i < l.length) (h2 : i < m.length) (h : l.take i = m.take i) (e : l[i] = m[i]) : l.take (i + 1) = m.take (i + 1) := by
  rw [List.take_succ_eq_append_getElem h1, List.take_succ_eq_append_getElem h2, h, e]
set_option maxRecDepth 100000 in
set_option maxHeartbeats 8000000 in
theorem refWrites_any (w : World) {S S2 : Nat → Prop} {a a2 : Option Addr} {n cx n2 cy : Nat} {l m : List Wr} (hl : RdL Elt.wr S w (.slice a n cx) l) (hm : RdL Elt.wr S2 w (.slice a2 n2 cy) m) :
    Calls Try.prog 40 #[.slice a n cx, .slice a2 n2 cy] w fun e w' => e = .returned (.bool (decide (l = m))) ∧ Below w.heap.size w w' := by
  obtain ⟨rfl, hnc, hcm⟩ := hl.len
  obtain ⟨rfl, hnc2, hcm2⟩ := hm.len
  have hlm : l.length ≤ 9223372036854775807 := by unfold maxLen at hcm; omega
  have q := Below.refl w.heap.size w
  by_cases hlen : l.length = m.length
  case neg =>
    have d : ((l.length : Int) == (m.length : Int)) = false := beq_eq_false_iff_ne.2 (by omega)
    have d2 : (l.length == m.length) = false := beq_eq_false_iff_ne.2 hlen
    have d3 : ((l.length : Int) != (m.length : Int)) = true := bne_iff_ne.2 (by omega)
    have H := Lib.hid (show decide (l = m) = false from decide_eq_false fun h => hlen (by rw [h]))
    clear hlen
    go_enter Try.func40, Try.ntmps40
    go_wp2_with fail
    go_ret
    exact ⟨by rw [H.out]; rfl, q⟩
  case pos =>
  have d : ((l.length : Int) == (m.length : Int)) = true := beq_iff_eq.2 (by omega)
  have d2 : (l.length == m.length) = true := beq_iff_eq.2 hlen
  have d3 : ((l.length : Int) != (m.length : Int)) = false := bne_eq_false_iff_eq.2 (by omega)
  have hle : l.length ≤ m.length := by omega
  replace hlen := Lib.hid hlen
  go_enter Try.func40, Try.ntmps40
  go_upto_region 4 with (fail)
  go_loopw [5] (fun iv wr => ∃ i : Nat, iv = .int .i64 i ∧ i ≤ l.length ∧ l.take i = m.take i ∧ Below w.heap.size w wr) (fun i _ => l.length - (intOf i).toNat)
  case atStart => exact ⟨0, rfl, Nat.zero_le _, by simp, q⟩
  case round =>
    clear q
    obtain ⟨i, rfl, hil, hno, q⟩ := hrel
    rcases Nat.lt_or_ge i l.length with hlt | hge
    · have hlt2 : i < m.length := Nat.lt_of_lt_of_le hlt hle
      obtain ⟨b, off, A, C, A2, C2, rfl, hb, g0, g1, g2, g3, hk1, hk2, hw64⟩ := (hl.below q).wr i hlt
      obtain ⟨b', off', A', C', A2', C2', rfl, hb', f0, f1, f2, f3, hk3, hk4, hw64'⟩ := (hm.below q).wr i hlt2
      have r1 := hk1.rd
      have r2 := hk2.rd
      have r3 := hk3.rd
      have r4 := hk4.rd
      clear hw64 hw64' hb hb'
      by_cases e0 : l[i].table = m[i].table
      · by_cases e1 : l[i].key = m[i].key
        · by_cases e2 : l[i].gone = m[i].gone
          · by_cases e3 : l[i].val = m[i].val
            · have H := Lib.hid (take_both hlt hlt2 hno (by cases h1 : l[i]; cases h2 : m[i]; rw [h1, h2] at e0 e1 e2 e3; simp_all))
              have dn0 : (l[i].table != m[i].table) = false := bne_eq_false_iff_eq.2 e0
              have d0 : (l[i].table == m[i].table) = true := beq_iff_eq.2 e0
              have dd0 : decide (l[i].table = m[i].table) = true := decide_eq_true e0
              have d1 : ((strOf l[i].key).toList == (strOf m[i].key).toList) = true := str_eqD.trans (decide_eq_true e1)
              have dn2 : (l[i].gone != m[i].gone) = false := bne_eq_false_iff_eq.2 e2
              have d2 : (l[i].gone == m[i].gone) = true := beq_iff_eq.2 e2
              have d3 : ((strOf l[i].val).toList == (strOf m[i].val).toList) = true := str_eqD.trans (decide_eq_true e3)
              clear hno e0 e1 e2 e3
              go_upto_region 6 with (fail)
              refine wp_region_quiet_lit (by kernel_rfl) (by kernel_rfl) ?_
              repeat (first | go_big_quiet_step (fail) | (go_big_quiet_want; refine quiet_conv byP rfl rfl r1 ?_; go_big_quiet_on; go_simp) | (go_big_quiet_want; refine quiet_conv byP rfl rfl r2 ?_; go_big_quiet_on; go_simp) | (go_big_quiet_want; refine quiet_conv byP rfl rfl r3 ?_; go_big_quiet_on; go_simp) | (go_big_quiet_want; refine quiet_conv byP rfl rfl r4 ?_; go_big_quiet_on; go_simp))
              first | (refine wpQuiet_nil ?_; intro _ hw'; obtain ⟨nq, hw''⟩ := hw'; subst hw'') | intro nq
              go_wp2_with fail
              go_roundw
              case rel => exact ⟨i + 1, by go_num, by omega, H.out, Below.drewN q _⟩
              case measure => simp [intOf]; omega
            · have H := Lib.hid (show decide (l = m) = false from decide_eq_false fun h => e3 (by subst h; rfl))
              have dn0 : (l[i].table != m[i].table) = false := bne_eq_false_iff_eq.2 e0
              have d0 : (l[i].table == m[i].table) = true := beq_iff_eq.2 e0
              have dd0 : decide (l[i].table = m[i].table) = true := decide_eq_true e0
              have d1 : ((strOf l[i].key).toList == (strOf m[i].key).toList) = true := str_eqD.trans (decide_eq_true e1)
              have dn2 : (l[i].gone != m[i].gone) = false := bne_eq_false_iff_eq.2 e2
              have d2 : (l[i].gone == m[i].gone) = true := beq_iff_eq.2 e2
              have d3 : ((strOf l[i].val).toList == (strOf m[i].val).toList) = false := str_eqD.trans (decide_eq_false e3)
              clear hno e0 e1 e2 e3
              go_upto_region 6 with (fail)
              refine wp_region_quiet_lit (by kernel_rfl) (by kernel_rfl) ?_
              repeat (first | go_big_quiet_step (fail) | (go_big_quiet_want; refine quiet_conv byP rfl rfl r1 ?_; go_big_quiet_on; go_simp) | (go_big_quiet_want; refine quiet_conv byP rfl rfl r2 ?_; go_big_quiet_on; go_simp) | (go_big_quiet_want; refine quiet_conv byP rfl rfl r3 ?_; go_big_quiet_on; go_simp) | (go_big_quiet_want; refine quiet_conv byP rfl rfl r4 ?_; go_big_quiet_on; go_simp))
              first | (refine wpQuiet_nil ?_; intro _ hw'; obtain ⟨nq, hw''⟩ := hw'; subst hw'') | intro nq
              go_wp2_with fail
              go_ret
              exact ⟨by rw [H.out]; rfl, Below.drewN q _⟩
          · have H := Lib.hid (show decide (l = m) = false from decide_eq_false fun h => e2 (by subst h; rfl))
            have dn0 : (l[i].table != m[i].table) = false := bne_eq_false_iff_eq.2 e0
            have d0 : (l[i].table == m[i].table) = true := beq_iff_eq.2 e0
            have dd0 : decide (l[i].table = m[i].table) = true := decide_eq_true e0
            have d1 : ((strOf l[i].key).toList == (strOf m[i].key).toList) = true := str_eqD.trans (decide_eq_true e1)
            have dn2 : (l[i].gone != m[i].gone) = true := bne_iff_ne.2 e2
            have d2 : (l[i].gone == m[i].gone) = false := beq_eq_false_iff_ne.2 e2
            clear hno e0 e1 e2
            go_upto_region 6 with (fail)
            refine wp_region_quiet_lit (by kernel_rfl) (by kernel_rfl) ?_
            repeat (first | go_big_quiet_step (fail) | (go_big_quiet_want; refine quiet_conv byP rfl rfl r1 ?_; go_big_quiet_on; go_simp) | (go_big_quiet_want; refine quiet_conv byP rfl rfl r2 ?_; go_big_quiet_on; go_simp) | (go_big_quiet_want; refine quiet_conv byP rfl rfl r3 ?_; go_big_quiet_on; go_simp) | (go_big_quiet_want; refine quiet_conv byP rfl rfl r4 ?_; go_big_quiet_on; go_simp))
            first | (refine wpQuiet_nil ?_; intro _ hw'; obtain ⟨nq, hw''⟩ := hw'; subst hw'') | intro nq
            go_wp2_with fail
            go_ret
            exact ⟨by rw [H.out]; rfl, Below.drewN q _⟩
        · have H := Lib.hid (show decide (l = m) = false from decide_eq_false fun h => e1 (by subst h; rfl))
          have dn0 : (l[i].table != m[i].table) = false := bne_eq_false_iff_eq.2 e0
          have d0 : (l[i].table == m[i].table) = true := beq_iff_eq.2 e0
          have dd0 : decide (l[i].table = m[i].table) = true := decide_eq_true e0
          have d1 : ((strOf l[i].key).toList == (strOf m[i].key).toList) = false := str_eqD.trans (decide_eq_false e1)
          clear hno e0 e1
          go_upto_region 6 with (fail)
          refine wp_region_quiet_lit (by kernel_rfl) (by kernel_rfl) ?_
          repeat (first | go_big_quiet_step (fail) | (go_big_quiet_want; refine quiet_conv byP rfl rfl r1 ?_; go_big_quiet_on; go_simp) | (go_big_quiet_want; refine quiet_conv byP rfl rfl r2 ?_; go_big_quiet_on; go_simp) | (go_big_quiet_want; refine quiet_conv byP rfl rfl r3 ?_; go_big_quiet_on; go_simp) | (go_big_quiet_want; refine quiet_conv byP rfl rfl r4 ?_; go_big_quiet_on; go_simp))
          first | (refine wpQuiet_nil ?_; intro _ hw'; obtain ⟨nq, hw''⟩ := hw'; subst hw'') | intro nq
          go_wp2_with fail
          go_ret
          exact ⟨by rw [H.out]; rfl, Below.drewN q _⟩
      · have H := Lib.hid (show decide (l = m) = false from decide_eq_false fun h => e0 (by subst h; rfl))
        have dn0 : (l[i].table != m[i].table) = true := bne_iff_ne.2 e0
        have d0 : (l[i].table == m[i].table) = false := beq_eq_false_iff_ne.2 e0
        have dd0 : decide (l[i].table = m[i].table) = false := decide_eq_false e0
        clear hno e0
        go_upto_region 6 with (fail)
        refine wp_region_quiet_lit (by kernel_rfl) (by kernel_rfl) ?_
        repeat (first | go_big_quiet_step (fail) | (go_big_quiet_want; refine quiet_conv byP rfl rfl r1 ?_; go_big_quiet_on; go_simp) | (go_big_quiet_want; refine quiet_conv byP rfl rfl r2 ?_; go_big_quiet_on; go_simp) | (go_big_quiet_want; refine quiet_conv byP rfl rfl r3 ?_; go_big_quiet_on; go_simp) | (go_big_quiet_want; refine quiet_conv byP rfl rfl r4 ?_; go_big_quiet_on; go_simp))
        first | (refine wpQuiet_nil ?_; intro _ hw'; obtain ⟨nq, hw''⟩ := hw'; subst hw'') | intro nq
        go_wp2_with fail
        go_ret
        exact ⟨by rw [H.out]; rfl, Below.drewN q _⟩
    · obtain rfl : i = l.length := by omega
      have H := Lib.hid (show decide (l = m) = true from decide_eq_true (by rw [List.take_length, hlen.out, List.take_length] at hno; exact hno))
      clear hno
      go_wp2_with fail
      go_ret
      exact ⟨by rw [H.out]; rfl, q⟩
end Go.Proofs.Ytmcleffpjfeegaa
namespace Go.Proofs.Ytmcleffpjfeegaa
open Go.RowKit Go.Shelf
set_option maxRecDepth 100000 in
set_option maxHeartbeats 4000000 in
theorem equal_any (w : World) {S S2 : Nat → Prop} {a a2 : Option Addr} {n c n2 c2 : Nat} {x y : List UInt8} (hx0 : RdS S w (.slice a n c) x) (hy0 : RdS S2 w (.slice a2 n2 c2) y) :
    Calls Try.prog 38 #[.slice a n c, .slice a2 n2 c2] w fun e w' => e = .returned (.bool (decide (x = y))) ∧ Below w.heap.size w w' := by
  have hx := hx0.rd
  have hy := hy0.rd
  by_cases h : x = y
  · subst h
    go_enter Try.func38, Try.ntmps38
    go_wp2_with (first
      | (refine wpList_conv byP rfl rfl rfl hx ?_)
      | (refine wpList_conv byP rfl rfl rfl hy ?_))
    go_ret
    exact ⟨by simp, Below.refl _ _⟩
  · have d := str_eqD.trans (decide_eq_false h)
    have H := Lib.hid h
    clear h
    go_enter Try.func38, Try.ntmps38
    go_wp2_with (first
      | (refine wpList_conv byP rfl rfl rfl hx ?_)
      | (refine wpList_conv byP rfl rfl rfl hy ?_))
    go_ret
    exact ⟨by simp [H.out], Below.refl _ _⟩
set_option maxRecDepth 100000 in
set_option maxHeartbeats 4000000 in
theorem same11_any (w : World) {S S2 : Nat → Prop} {v : Value} {x y : Wr} {xb : Nat} {a1 a3 : Option Addr} {a2 a4 : Nat} (hy : RdWr S w v y) (hB : BoxN w xb 43 [.int .i64 x.table, .slice a1 x.key.length a2, .bool x.gone, .slice a3 x.val.length a4]) (hk : RdS S2 w (.slice a1 x.key.length a2) x.key) :
    Calls Try.prog 37 #[v, .pointer (some ⟨xb, 0, none⟩)] w fun e w' => e = .returned (.bool (eqW x y)) ∧ Below w.heap.size w w' := by
  obtain ⟨y1, y2, y3, y4, rfl, hky, _, _⟩ := hy
  obtain ⟨W, hW, q, By, hsz⟩ := spBox w 43 [.int .i64 y.table, .slice y1 y.key.length y2, .bool y.gone, .slice y3 y.val.length y4]
  clear hsz
  go_enter Try.func37, Try.ntmps37
  go_upto_region 1 with (fail)
  rw [show w.alloc (.cells #[.int .i64 y.table, .slice y1 y.key.length y2, .bool y.gone, .slice y3 y.val.length y4] 43) = W from hW.symm]
  clear hW
  have c0 := By.cell (i := 0) rfl
  have c1 := By.cell (i := 1) rfl
  have hB2 := hB.below q hB.lt
  have d0 := hB2.cell (i := 0) rfl
  have d1 := hB2.cell (i := 1) rfl
  clear hB hB2 By
  have eqr := equal_any W (hk.below q) (hky.below q)
  by_cases h : x.table = y.table
  · have da : (x.table == y.table) = true := beq_iff_eq.2 h
    have db : decide (x.table = y.table) = true := decide_eq_true h
    have H := Lib.hid (show eqW x y = decide (x.key = y.key) by unfold eqW; rw [db, Bool.true_and])
    clear h
    go_wp2_with fail
    refine eqr.mono ?_
    rintro e w1 ⟨rfl, hb⟩
    clear c0 c1 d0 d1 eqr
    go_wp2_with fail
    go_ret
    exact ⟨by first | (rw [H.out]; done) | (rw [H.out]; rfl), q.trans (hb.mono q.size)⟩
  · have da : (x.table == y.table) = false := beq_eq_false_iff_ne.2 h
    have db : decide (x.table = y.table) = false := decide_eq_false h
    have H := Lib.hid (show eqW x y = false by unfold eqW; rw [db, Bool.false_and])
    clear h eqr
    go_wp2_with fail
    go_ret
    exact ⟨by rw [H.out]; rfl, q⟩
set_option maxRecDepth 100000 in
set_option maxHeartbeats 4000000 in
theorem same1_any (w : World) {S S2 : Nat → Prop} {v : Value} {x : Wr} {l : List Wr} {lb : Nat} {a : Option Addr} {c : Nat} (hx : RdWr S2 w v x) (hB : Boxed w lb 26 (.slice a l.length c)) (hl : RdL Elt.wr S w (.slice a l.length c) l) :
    Calls Try.prog 36 #[v, .pointer (some ⟨lb, 0, none⟩)] w fun e w' => e = .returned (.bool (l.any fun y => eqW x y)) ∧ Below w.heap.size w w' := by
  obtain ⟨a1, a2, a3, a4, rfl, hk, _, _⟩ := hx
  obtain ⟨W, hW, q, Bx, hsz⟩ := spBox w 43 [.int .i64 x.table, .slice a1 x.key.length a2, .bool x.gone, .slice a3 x.val.length a4]
  clear hsz
  go_enter Try.func36, Try.ntmps36
  go_upto_region 1 with (fail)
  rw [show w.alloc (.cells #[.int .i64 x.table, .slice a1 x.key.length a2, .bool x.gone, .slice a3 x.val.length a4] 43) = W from hW.symm]
  clear hW
  have hc := (q.cell (p := ⟨lb, 0, none⟩) (cell_lt hB.cell)).trans hB.cell
  have hcl := containsW_any W (hl.below q) 37 #[] #[.pointer (some ⟨w.heap.size, 0, none⟩)] (enters_of Try.func37 (by kernel_rfl) rfl) (fun y => eqW x y) (fun V _ _ hb hs => same11_any V hs (Bx.below hb Bx.lt) ((hk.below q).below hb))
  clear hB
  go_wp2_with fail
  refine hcl.mono ?_
  rintro e w1 ⟨rfl, hb⟩
  clear hc hcl
  go_wp2_with fail
  go_ret
  exact ⟨rfl, q.trans (hb.mono q.size)⟩
set_option maxRecDepth 100000 in
set_option maxHeartbeats 4000000 in
theorem sSame_any (w : World) {S S2 : Nat → Prop} {a a2 : Option Addr} {n c n2 c2 : Nat} {l ws : List Wr} (hl : RdL Elt.wr S w (.slice a n c) l) (hw : RdL Elt.wr S2 w (.slice a2 n2 c2) ws) :
    Calls Try.prog 18 #[.slice a n c, .slice a2 n2 c2] w fun e w' => e = .returned (.bool (sameW l ws)) ∧ Below w.heap.size w w' := by
  obtain ⟨rfl, _, _⟩ := hw.len
  obtain ⟨W, hW⟩ : ∃ W, W = w.alloc (.cells #[.slice a2 ws.length c2] 26) := ⟨_, rfl⟩
  have q : Below w.heap.size w W := by rw [hW]; exact (Below.refl _ _).alloc (Nat.le_refl _) _
  have hB : Boxed W w.heap.size 26 (.slice a2 ws.length c2) := by rw [hW]; exact Boxed.new _ _ _
  go_enter Try.func18, Try.ntmps18
  go_upto_region 2 with (fail)
  rw [← hW]
  clear hW
  have hcl := containsW_any W (hl.below q) 36 #[] #[.pointer (some ⟨w.heap.size, 0, none⟩)] (enters_of Try.func36 (by kernel_rfl) rfl) (fun x => ws.any fun y => eqW x y) (fun V _ _ hb hx => same1_any V hx ((hb.block _ hB.lt).trans hB) ((hw.below q).below hb))
  go_wp2_with fail
  refine hcl.mono ?_
  rintro e w1 ⟨rfl, hb⟩
  clear hcl
  go_wp2_with fail
  go_ret
  exact ⟨rfl, q.trans (hb.mono q.size)⟩
end Go.Proofs.Ytmcleffpjfeegaa
namespace Go.Proofs.Ytmcleffpjfeegaa
open Go.RowKit Go.Shelf
def DuoV (W : World) (b : Nat) (t : TypeId) (u v : Value) : Prop := W.heap[b]? = some (.cells #[u, v] t (0, 0))
section
variable {W W' : World} {b : Nat} {t : TypeId} {u v : Value}
theorem DuoV.new (W : World) (t : TypeId) (u v : Value) : DuoV (W.alloc (.cells #[u, v] t)) W.heap.size t u v := by unfold DuoV; simp only [World.alloc, Array.getElem?_push_size]
theorem DuoV.cell0 (h : DuoV W b t u v) : W.cell? ⟨b, 0, none⟩ = some u := by simp [World.cell?, show W.heap[b]? = _ from h]
theorem DuoV.cell1 (h : DuoV W b t u v) : W.cell? ⟨b, 1, none⟩ = some v := by simp [World.cell?, show W.heap[b]? = _ from h]
end
end Go.Proofs.Ytmcleffpjfeegaa
namespace Go.Proofs.Ytmcleffpjfeegaa
open Go.RowKit Go.Shelf
def shP (l : List Pq) : Prop := l.length ≤ 100 ∧ ∀ x ∈ l, x.key.length ≤ 100 ∧ x.val.length ≤ 100
instance (l : List Pq) : Decidable (shP l) := by unfold shP; exact inferInstance
def fewD (d : Dl) : Prop := d.writes.length ≤ 30 ∧ d.marks.length ≤ 30 ∧ ∀ x ∈ d.writes, x.key.length ≤ 100 ∧ x.val.length ≤ 100
instance (d : Dl) : Decidable (fewD d) := by unfold fewD; exact inferInstance
theorem all_succ {α : Type} {P : α → Prop} {l : List α} {k : Nat} (hlt : k < l.length) (h : ∀ x ∈ l.take k, P x) (hk : P l[k]) : ∀ x ∈ l.take (k + 1), P x := fun x hx => by
  rw [List.take_succ_eq_append_getElem hlt] at hx
  rcases List.mem_append.1 hx with hx | hx
  · exact h x hx
  · simp at hx; rw [hx]; exact hk
set_option maxRecDepth 100000 in
set_option maxHeartbeats 4000000 in
theorem few_any (w : World) {S : Nat → Prop} {v : Value} {d : Dl} (h : RdDl S w v d) :
    Calls Try.prog 23 #[v] w fun e w' => e = .returned (.bool (decide (fewD d))) ∧ Below w.heap.size w w' := by
  obtain ⟨a, c, a2, c2, rfl, hw, hm⟩ := h
  obtain ⟨_, hc1, hm1⟩ := hw.len
  obtain ⟨_, hc2, hm2⟩ := hm.len
  have hl1 : d.writes.length ≤ 9223372036854775807 := by unfold maxLen at hm1; omega
  have hl2 : d.marks.length ≤ 9223372036854775807 := by unfold maxLen at hm2; omega
  obtain ⟨W, hW⟩ : ∃ W, W = w.alloc (.cells #[.slice a d.writes.length c, .slice a2 d.marks.length c2] 56) := ⟨_, rfl⟩
  have q : Below w.heap.size w W := by rw [hW]; exact (Below.refl _ _).alloc (Nat.le_refl _) _
  have hB : DuoV W w.heap.size 56 (.slice a d.writes.length c) (.slice a2 d.marks.length c2) := by rw [hW]; exact DuoV.new _ _ _ _
  go_enter Try.func23, Try.ntmps23
  go_upto_region 1 with (fail)
  rw [← hW]
  clear hW
  have b0 := hB.cell0
  have b1 := hB.cell1
  rcases Nat.lt_or_ge 30 d.writes.length with h1 | h1
  · have d1 : (30 < d.writes.length) = True := eq_true h1
    have HK := Lib.hid (show decide (fewD d) = false from decide_eq_false fun h => by have := h.1; omega)
    go_wp2_with fail
    go_ret
    exact ⟨by rw [HK.out]; rfl, q⟩
  have d1 : (30 < d.writes.length) = False := eq_false (by omega)
  rcases Nat.lt_or_ge 30 d.marks.length with h2 | h2
  · have d2 : (30 < d.marks.length) = True := eq_true h2
    have HK := Lib.hid (show decide (fewD d) = false from decide_eq_false fun h => by have := h.2.1; omega)
    go_wp2_with fail
    go_ret
    exact ⟨by rw [HK.out]; rfl, q⟩
  have d2 : (30 < d.marks.length) = False := eq_false (by omega)
  go_upto_region 4 with (fail)
  go_loopw [3] (fun iv wr => ∃ (k : Nat), iv = .int .i64 k ∧ k ≤ d.writes.length ∧ (∀ x ∈ d.writes.take k, x.key.length ≤ 100 ∧ x.val.length ≤ 100) ∧ Below w.heap.size w wr ∧ DuoV wr w.heap.size 56 (.slice a d.writes.length c) (.slice a2 d.marks.length c2))
    (fun i _ => d.writes.length - (intOf i).toNat)
  case atStart => exact ⟨0, rfl, Nat.zero_le _, by simp, q, hB⟩
  case round =>
    clear q hB b0 b1
    obtain ⟨k, rfl, hkl, hall, q, hB⟩ := hrel
    have b0 := hB.cell0
    have b1 := hB.cell1
    rcases Nat.lt_or_ge k d.writes.length with hlt | hge
    · obtain ⟨b, off, A, C, A2, C2, rfl, hb, c0, c1, c2, c3, hk1, hk2, hw64⟩ := (hw.below q).wr k hlt
      by_cases h3 : 100 < d.writes[k].key.length
      · have d3 : (100 < d.writes[k].key.length) = True := eq_true h3
        have hno := Lib.hid (show decide (fewD d) = false from decide_eq_false fun h => by have := (h.2.2 _ (List.getElem_mem hlt)).1; omega)
        clear hall
        go_wp2_with fail
        go_ret
        exact ⟨by rw [hno.out]; rfl, q⟩
      · have d3 : (100 < d.writes[k].key.length) = False := eq_false h3
        by_cases h4 : 100 < d.writes[k].val.length
        · have d4 : (100 < d.writes[k].val.length) = True := eq_true h4
          have hno := Lib.hid (show decide (fewD d) = false from decide_eq_false fun h => by have := (h.2.2 _ (List.getElem_mem hlt)).2; omega)
          clear hall
          go_wp2_with fail
          go_ret
          exact ⟨by rw [hno.out]; rfl, q⟩
        · have d4 : (100 < d.writes[k].val.length) = False := eq_false h4
          have hall2 := Lib.hid (all_succ hlt hall ⟨by omega, by omega⟩)
          clear hall
          go_wp2_with fail
          go_roundw
          case rel => exact ⟨k + 1, by go_num, by omega, hall2.out, q, hB⟩
          case measure => simp [intOf]; omega
    · obtain rfl : k = d.writes.length := by omega
      rw [List.take_length] at hall
      have hno := Lib.hid (show decide (fewD d) = true from decide_eq_true ⟨h1, h2, hall⟩)
      clear hall
      go_wp2_with fail
      go_ret
      exact ⟨by rw [hno.out]; rfl, q⟩
end Go.Proofs.Ytmcleffpjfeegaa
