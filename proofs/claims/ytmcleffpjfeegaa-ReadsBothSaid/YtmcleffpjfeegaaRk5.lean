/-
  TEXTS OF ONE PROOF, merged: SpE, SpF, SpH, SpI.
-/
import Derived.Test.YtmcleffpjfeegaaRk4
namespace Go.Proofs.Ytmcleffpjfeegaa
open Go.RowKit Go.Shelf
set_option maxRecDepth 100000 in
set_option maxHeartbeats 4000000 in
theorem sWrong_any (w : World) {S : Nat → Prop} {v : Value} {x : Sp} (hx : RdSp S w v x) :
    Calls Try.prog 41 #[v] w fun e w' => e = .returned (.bool (!decide (mayS x))) ∧ Below w.heap.size w w' := by
  have hy := hx
  obtain ⟨a1, a2, a3, a4, rfl, hlx, hhx, htx⟩ := hx
  obtain ⟨W, hW, q, Bx, hsz⟩ := spBox w 25 [.int .i64 x.table, .slice a1 x.lo.length a2, .slice a3 x.hi.length a4, .bool x.isOpen]
  clear hsz
  go_enter Try.func41, Try.ntmps41
  go_upto_region 1 with (fail)
  rw [show w.alloc (.cells #[.int .i64 x.table, .slice a1 x.lo.length a2, .slice a3 x.hi.length a4, .bool x.isOpen] 25) = W from hW.symm]
  clear hW
  have c0 := Bx.cell (i := 0) rfl
  have c1 := Bx.cell (i := 1) rfl
  have c2 := Bx.cell (i := 2) rfl
  have c3 := Bx.cell (i := 3) rfl
  go_wp2_with fail
  refine (sCheck_any W (hy.below q)).mono ?_
  rintro e w1 ⟨rfl, hb⟩
  clear c0 c1 c2 c3
  go_wp2_with fail
  go_ret
  exact ⟨rfl, q.trans (hb.mono q.size)⟩
theorem sOf_any (w : World) {S : Nat → Prop} {v : Value} {x : Sp} {tb : Nat} {t : Int} (hx : RdSp S w v x) (ht : BoxN w tb 3 [.int .i64 t]) :
    Calls Try.prog 63 #[v, .pointer (some ⟨tb, 0, none⟩)] w fun e w' => e = .returned (.bool (decide (x.table = t))) ∧ Below w.heap.size w w' := by
  obtain ⟨a1, a2, a3, a4, rfl, hlx, hhx, htx⟩ := hx
  obtain ⟨W, hW, q, Bx, hsz⟩ := spBox w 25 [.int .i64 x.table, .slice a1 x.lo.length a2, .slice a3 x.hi.length a4, .bool x.isOpen]
  clear hsz
  go_enter Try.func63, Try.ntmps63
  go_upto_region 1 with (fail)
  rw [show w.alloc (.cells #[.int .i64 x.table, .slice a1 x.lo.length a2, .slice a3 x.hi.length a4, .bool x.isOpen] 25) = W from hW.symm]
  clear hW
  have c0 := Bx.cell (i := 0) rfl
  have d0 := (ht.below q ht.lt).cell (i := 0) rfl
  by_cases h : x.table = t
  · have da : (x.table == t) = true := beq_iff_eq.2 h
    have db : decide (x.table = t) = true := decide_eq_true h
    have H := Lib.hid db
    clear h
    go_wp2_with fail
    go_ret
    exact ⟨by first | (rw [H.out]; done) | (rw [H.out]; rfl), q⟩
  · have da : (x.table == t) = false := beq_eq_false_iff_ne.2 h
    have db : decide (x.table = t) = false := decide_eq_false h
    have H := Lib.hid db
    clear h
    go_wp2_with fail
    go_ret
    exact ⟨by first | (rw [H.out]; done) | (rw [H.out]; rfl), q⟩
def FndS (p : Sp → Bool) (l : List Sp) (v : Int) : Prop := (v = -1 ∧ ∀ y ∈ l, p y = false) ∨ ∃ (j : Nat) (h : j < l.length), v = (j : Int) ∧ p l[j] = true ∧ ∀ y ∈ l.take j, p y = false
set_option maxRecDepth 100000 in
set_option maxHeartbeats 4000000 in
theorem indexWrong_any (w : World) {S : Nat → Prop} {a : Option Addr} {n c : Nat} {l : List Sp} (hl : RdL Elt.sp S w (.slice a n c) l) :
    Calls Try.prog 58 #[.slice a n c, .func (.func 41) #[] #[]] w fun e w' => ∃ i : Int, e = .returned (.int .i64 i) ∧ FndS (fun x => !decide (mayS x)) l i ∧ Below w.heap.size w w' := by
  obtain ⟨rfl, hnc, hcm⟩ := hl.len
  have hlm : l.length ≤ 9223372036854775807 := by unfold maxLen at hcm; omega
  have hEE := enters_of Try.func41 (by kernel_rfl) rfl
  have q := Below.refl w.heap.size w
  go_enter Try.func58, Try.ntmps58
  go_upto_region 2 with (fail)
  go_loopw [5, 8] (fun _ iv wr => ∃ (k : Nat), iv = .int .i64 k ∧ k ≤ l.length ∧ (∀ x ∈ l.take k, (!decide (mayS x)) = false) ∧ Below w.heap.size w wr)
    (fun _ i _ => l.length - (intOf i).toNat)
  case atStart => exact ⟨0, rfl, Nat.zero_le _, by simp, q⟩
  case round =>
    clear q
    obtain ⟨k, rfl, hkl, hall, q⟩ := hrel
    replace hall := Lib.hid hall
    rcases Nat.lt_or_ge k l.length with hlt | hge
    · obtain ⟨b, off, A, C, A2, C2, rfl, hb, c0, c1, c2, c3, hk1, hk2, hw64⟩ := (hl.below q).sp k hlt
      have hw : RdSp S wr (.agg #[.int .i64 l[k].table, .slice A l[k].lo.length C, .slice A2 l[k].hi.length C2, .bool l[k].isOpen]) l[k] := ⟨A, C, A2, C2, rfl, hk1, hk2, hw64⟩
      go_upto_region 4 with (fail)
      go_wp2_with fail
      refine (sWrong_any wr hw).mono ?_
      rintro e w1 ⟨rfl, hb1⟩
      replace q := q.trans (hb1.mono q.size)
      skip
      clear c0 c1 c2 c3 hk1 hk2 hw
      cases hm : (fun x : Sp => !decide (mayS x)) l[k] with
      | false =>
        have hall2 := Lib.hid (show ∀ x ∈ l.take (k + 1), (!decide (mayS x)) = false from fun x hx => by
          rw [List.take_succ_eq_append_getElem hlt] at hx
          rcases List.mem_append.1 hx with h | h
          · exact hall.out x h
          · simp at h; rw [h]; exact hm)
        have hm2 : (!decide (mayS l[k])) = false := hm
        rw [hm2]
        clear hall hm hm2
        go_wp2_with fail
        go_roundw
        case rel => exact ⟨k + 1, by go_num, by omega, hall2.out, q⟩
        case measure => simp [intOf]; omega
      | true =>
        have hm2 : (!decide (mayS l[k])) = true := hm
        rw [hm2]
        clear hm2
        replace hm := Lib.hid hm
        go_wp2_with fail
        go_ret
        exact ⟨_, rfl, .inr ⟨k, hlt, rfl, hm.out, hall.out⟩, q⟩
    · obtain rfl : k = l.length := by omega
      have hno := Lib.hid (show ∀ x ∈ l, (!decide (mayS x)) = false from fun x hx => hall.out x (by rw [List.take_length]; exact hx))
      clear hall
      go_wp2_with fail
      go_ret
      exact ⟨_, rfl, .inl ⟨rfl, hno.out⟩, q⟩
set_option maxRecDepth 100000 in
set_option maxHeartbeats 4000000 in
theorem indexOf_any (w : World) {S : Nat → Prop} {a : Option Addr} {n c : Nat} {l : List Sp} {tb : Nat} {t : Int} (hB0 : BoxN w tb 3 [.int .i64 t]) (hl : RdL Elt.sp S w (.slice a n c) l) :
    Calls Try.prog 58 #[.slice a n c, .func (.func 63) #[] #[.pointer (some ⟨tb, 0, none⟩)]] w fun e w' => ∃ i : Int, e = .returned (.int .i64 i) ∧ FndS (fun x => decide (x.table = t)) l i ∧ Below w.heap.size w w' := by
  obtain ⟨rfl, hnc, hcm⟩ := hl.len
  have hlm : l.length ≤ 9223372036854775807 := by unfold maxLen at hcm; omega
  have hEE := enters_of Try.func63 (by kernel_rfl) rfl
  have q := Below.refl w.heap.size w
  go_enter Try.func58, Try.ntmps58
  go_upto_region 2 with (fail)
  go_loopw [5, 8] (fun _ iv wr => ∃ (k : Nat), iv = .int .i64 k ∧ k ≤ l.length ∧ (∀ x ∈ l.take k, (decide (x.table = t)) = false) ∧ BoxN wr tb 3 [.int .i64 t] ∧ Below w.heap.size w wr)
    (fun _ i _ => l.length - (intOf i).toNat)
  case atStart => exact ⟨0, rfl, Nat.zero_le _, by simp, hB0, q⟩
  case round =>
    clear q
    obtain ⟨k, rfl, hkl, hall, hB, q⟩ := hrel
    replace hall := Lib.hid hall
    rcases Nat.lt_or_ge k l.length with hlt | hge
    · obtain ⟨b, off, A, C, A2, C2, rfl, hb, c0, c1, c2, c3, hk1, hk2, hw64⟩ := (hl.below q).sp k hlt
      have hw : RdSp S wr (.agg #[.int .i64 l[k].table, .slice A l[k].lo.length C, .slice A2 l[k].hi.length C2, .bool l[k].isOpen]) l[k] := ⟨A, C, A2, C2, rfl, hk1, hk2, hw64⟩
      go_upto_region 4 with (fail)
      go_wp2_with fail
      refine (sOf_any wr hw hB).mono ?_
      rintro e w1 ⟨rfl, hb1⟩
      replace q := q.trans (hb1.mono q.size)
      replace hB := hB.below hb1 hB.lt
      clear c0 c1 c2 c3 hk1 hk2 hw
      cases hm : (fun x : Sp => decide (x.table = t)) l[k] with
      | false =>
        have hall2 := Lib.hid (show ∀ x ∈ l.take (k + 1), (decide (x.table = t)) = false from fun x hx => by
          rw [List.take_succ_eq_append_getElem hlt] at hx
          rcases List.mem_append.1 hx with h | h
          · exact hall.out x h
          · simp at h; rw [h]; exact hm)
        have hm2 : (decide (l[k].table = t)) = false := hm
        rw [hm2]
        clear hall hm hm2
        go_wp2_with fail
        go_roundw
        case rel => exact ⟨k + 1, by go_num, by omega, hall2.out, hB, q⟩
        case measure => simp [intOf]; omega
      | true =>
        have hm2 : (decide (l[k].table = t)) = true := hm
        rw [hm2]
        clear hm2
        replace hm := Lib.hid hm
        go_wp2_with fail
        go_ret
        exact ⟨_, rfl, .inr ⟨k, hlt, rfl, hm.out, hall.out⟩, q⟩
    · obtain rfl : k = l.length := by omega
      have hno := Lib.hid (show ∀ x ∈ l, (decide (x.table = t)) = false from fun x hx => hall.out x (by rw [List.take_length]; exact hx))
      clear hall
      go_wp2_with fail
      go_ret
      exact ⟨_, rfl, .inl ⟨rfl, hno.out⟩, q⟩
set_option maxRecDepth 100000 in
set_option maxHeartbeats 4000000 in
theorem containsWrong_any (w : World) {S : Nat → Prop} {a : Option Addr} {n c : Nat} {l : List Sp} (hl : RdL Elt.sp S w (.slice a n c) l) :
    Calls Try.prog 31 #[.slice a n c, .func (.func 41) #[] #[]] w fun e w' => e = .returned (.bool (!decide (∀ x ∈ l, mayS x))) ∧ Below w.heap.size w w' := by
  go_enter Try.func31, Try.ntmps31
  go_wp2_with fail
  refine (indexWrong_any w hl).mono ?_
  rintro e w1 ⟨i, rfl, hi, hb⟩
  have hd := Lib.hid (show decide (0 ≤ i) = (!decide (∀ x ∈ l, mayS x)) from by
    rcases hi with ⟨h1, h2⟩ | ⟨j, h1, h2, h3, _⟩
    · rw [decide_eq_false (by omega), decide_eq_true fun x hx => by simpa using h2 x hx]; rfl
    · rw [decide_eq_true (by omega), decide_eq_false fun h => by have := h _ (List.getElem_mem h1); simp [this] at h3]; rfl)
  clear hi
  go_wp2_with fail
  go_ret
  exact ⟨by first | (rw [hd.out]; done) | (rw [← hd.out]; rfl), hb⟩
end Go.Proofs.Ytmcleffpjfeegaa
namespace Go.Proofs.Ytmcleffpjfeegaa
open Go.RowKit Go.Shelf
theorem sps1 : ∀ i z, Try.prog.info? 25 = some i → i.zero = some z → ∀ u ∈ z.cells.toList, u.oneCell' = true := ones_of (z0 := .agg #[.int .i64 0, .slice none 0 0, .slice none 0 0, .bool false]) (by kernel_rfl) (fun u hu => by
  simp [Value.cells] at hu
  rcases hu with rfl | rfl | rfl <;> rfl)
theorem Flat.dropE {α : Type} {E : Elt α} {S : Nat → Prop} {w : World} : ∀ {xs : List α} {vs : List Value} (_ : Flat E S w xs vs) (k : Nat), Flat E S w (xs.drop k) (vs.drop (k * E.size))
  | [], _, h, k => by cases h; simp [Flat]
  | x :: xs, _, h, 0 => by simpa using h
  | x :: xs, _, ⟨us, ws, rfl, h1, h2⟩, k + 1 => by
    have hl := E.len h1
    rw [show (k + 1) * E.size = us.length + k * E.size by rw [hl, Nat.add_mul]; omega, List.drop_length_add_append]
    exact Flat.dropE h2 k
theorem set4 {α : Type} : ∀ (vs : List α) (f : Nat), f + 3 < vs.length → ∀ a b c d : α, (((vs.set f a).set (f + 1) b).set (f + 2) c).set (f + 3) d = vs.take f ++ ([a, b, c, d] ++ vs.drop (f + 4))
  | x0 :: x1 :: x2 :: x3 :: t, 0, _, a, b, c, d => by simp
  | x :: t, f + 1, h, a, b, c, d => by
    have ih := set4 t f (by simp only [List.length_cons] at h; omega) a b c d
    simp only [List.set_cons_succ, show f + 1 + 1 = (f + 1) + 1 from rfl, show f + 1 + 2 = (f + 2) + 1 from rfl, show f + 1 + 3 = (f + 3) + 1 from rfl, show f + 1 + 4 = (f + 4) + 1 from rfl, List.take_succ_cons, List.drop_succ_cons, List.cons_append, ih]
theorem put4_take {α : Type} {vs us : List α} {f : Nat} (hf : f ≤ vs.length) (hu : us.length = 4) : (vs.take f ++ (us ++ vs.drop (f + 4))).take (f + 4) = vs.take f ++ us := by
  have h : (vs.take f).length = f := by rw [List.length_take]; omega
  rw [show f + 4 = (vs.take f).length + us.length by omega, List.take_length_add_append, List.take_append_of_le_length (by omega), List.take_length]
theorem put4_drop {α : Type} {vs us : List α} {f m : Nat} (hm : f + 4 ≤ m) (hf : f ≤ vs.length) (hu : us.length = 4) : (vs.take f ++ (us ++ vs.drop (f + 4))).drop m = vs.drop m := by
  have h : (vs.take f).length = f := by rw [List.length_take]; omega
  rw [show m = (vs.take f).length + (us.length + (m - (f + 4))) by omega, List.drop_length_add_append, List.drop_length_add_append, List.drop_drop]
  congr 1; omega
section
variable {P : Program} {ops : Array Oper} {rest : List Oper} {o : Oper} {a : Act} {K : Act → World → Prop} {Q : Exit → Act → World → Prop} {w : World} {Te : TypeId} {sz n g : Nat} {V : Value} {vs : List Value}
theorem grownOne (w : World) (p : Addr) (v : Value) : w.grownBy (w.setCell p v) (some p.block) := ⟨rfl, rfl, rfl, by simp [World.setCell], fun k _ hk => heap_setCell_other w p k v (fun e => hk (by rw [e]))⟩
theorem RowQ.frozenS (h : RowQ Te sz w V n vs) (hg : V.ownBlock = Option.some g) (j : Nat) : w.frozen? ⟨g, j, none⟩ = false := by
  obtain ⟨cur, hb⟩ := h.block hg
  simp [World.frozen?, hb]
theorem RowQ.putS (h : RowQ Te sz w V n vs) (hg : V.ownBlock = Option.some g) {j : Nat} {u : Value} (hu : u.oneCell' = true) : RowQ Te sz (w.setCell ⟨g, j, none⟩ u) V n (vs.set j u) := by
  rcases h.cases with ⟨rfl, _, _⟩ | ⟨g', cap, cur, rfl, hb, h1, h2, h3, h4⟩
  · simp [Value.ownBlock] at hg
  · simp [Value.ownBlock] at hg
    subst hg
    refine RowQ.of (cur := cur.setIfInBounds j u) ?_ h1 h2 (by simp [h3]) ?_ fun x hx => ?_
    · simp only [World.setCell, Array.getElem?_modify, hb]
      simp
    · rw [Array.toList_setIfInBounds, List.take_set, h4]
    · rcases List.mem_or_eq_of_mem_set hx with hx | rfl
      · exact h.2 x hx
      · exact hu
theorem wp_putQ4 {t : TypeId} {x y : Operand} {u v r s : Value} {f : Nat} (hs : (P.info? t).map (·.size) = some 4) (ho : o.op = .store t x y) (hx : a.eval x = .pointer (some ⟨g, f, none⟩)) (hy : a.eval y = .agg #[u, v, r, s]) (hu1 : u.oneCell' = true) (hv1 : v.oneCell' = true) (hr1 : r.oneCell' = true) (hs1 : s.oneCell' = true) (hr : RowQ Te sz w V n vs) (hg : V.ownBlock = some g) (hf : f + 3 < vs.length)
    (h : ∀ w', w.grownBy w' (some g) → RowQ Te sz w' V n (vs.take f ++ ([u, v, r, s] ++ vs.drop (f + 4))) → K (a.put o.dst undef) w') : o.wp P a w K Q := by
  have r1 := hr.putS hg (j := f) hu1
  have r2 := r1.putS hg (j := f + 1) hv1
  have r3 := r2.putS hg (j := f + 2) hr1
  have r4 := r3.putS hg (j := f + 3) hs1
  have c0 := hr.cell hg (List.getElem?_eq_getElem (show f < vs.length by omega))
  have c1 := r1.cell hg (List.getElem?_eq_getElem (show f + 1 < (vs.set f u).length by rw [List.length_set]; omega))
  have c2 := r2.cell hg (List.getElem?_eq_getElem (show f + 2 < ((vs.set f u).set (f + 1) v).length by rw [List.length_set, List.length_set]; omega))
  have c3 := r3.cell hg (List.getElem?_eq_getElem (show f + 3 < (((vs.set f u).set (f + 1) v).set (f + 2) r).length by rw [List.length_set, List.length_set, List.length_set]; omega))
  have hgr := grownT (grownT (grownT (grownOne w ⟨g, f, none⟩ u) (grownOne _ ⟨g, f + 1, none⟩ v)) (grownOne _ ⟨g, f + 2, none⟩ r)) (grownOne _ ⟨g, f + 3, none⟩ s)
  rw [set4 vs f hf] at r4
  refine wp_skip ?_ (h _ hgr r4)
  simp only [execOp, ho, hx, hy]
  simp [Instr.storeAt, storeVar, run_sizeOf hs, storeCells, Value.cells, run_store _ _ _ _ _ hu1, run_store _ _ _ _ _ hv1, run_store _ _ _ _ _ hr1, run_store _ _ _ _ _ hs1, c0, c1, c2, c3, hr.frozenS hg f, r1.frozenS hg (f + 1), r2.frozenS hg (f + 2), r3.frozenS hg (f + 3), Addr.add, go_sem]
theorem wpList_putQ4 {t : TypeId} {x y : Operand} {u v r s : Value} {f : Nat} (hs : (P.info? t).map (·.size) = some 4) (ho : o.op = .store t x y) (hd : o.dst = none) (hgd : Region.wanted o (yielded ops a.tmps) = true) (hx : a.eval x = .pointer (some ⟨g, f, none⟩)) (hy : a.eval y = .agg #[u, v, r, s]) (hu1 : u.oneCell' = true) (hv1 : v.oneCell' = true) (hr1 : r.oneCell' = true) (hs1 : s.oneCell' = true) (hr : RowQ Te sz w V n vs) (hg : V.ownBlock = some g) (hf : f + 3 < vs.length)
    (h : ∀ w', w.grownBy w' (some g) → RowQ Te sz w' V n (vs.take f ++ ([u, v, r, s] ++ vs.drop (f + 4))) → wpList P ops Q rest a w') : wpList P ops Q (o :: rest) a w :=
  BigFrame.wpList_want hgd fun _ hK => wp_putQ4 hs ho hx hy hu1 hv1 hr1 hs1 hr hg hf fun w' h1 h2 => hK _ _ (by rw [hd]; exact h w' h1 h2)
end
def notT (t : Int) (l : List Sp) : List Sp := l.filter fun s => !decide (s.table = t)
def DelR (w1 : World) (g cap lo tb : Nat) (t : Int) (l : List Sp) (iv jv : Value) (wr : World) : Prop :=
  ∃ (i j : Nat) (vs : List Value), iv = .int .i64 (i : Int) ∧ jv = .int .i64 (j : Int) ∧ i < j ∧ j ≤ l.length ∧ RowQ 25 4 wr (.slice (some ⟨g, 0, none⟩) l.length cap) l.length vs ∧
    Flat Elt.sp (fun k => lo ≤ k ∧ k < w1.heap.size ∧ k ≠ g) wr (notT t (l.take j)) (vs.take (i * 4)) ∧ Flat Elt.sp (fun k => lo ≤ k ∧ k < w1.heap.size ∧ k ≠ g) wr (l.drop j) (vs.drop (j * 4)) ∧
    BoxN wr tb 3 [.int .i64 t] ∧ w1.grownBy wr (some g)
theorem notT_snoc {t : Int} {l : List Sp} {j : Nat} (h : j < l.length) : notT t (l.take (j + 1)) = notT t (l.take j) ++ (if l[j].table = t then [] else [l[j]]) := by
  unfold notT
  rw [List.take_succ_eq_append_getElem h, List.filter_append]
  congr 1
  by_cases e : l[j].table = t <;> simp [e]
set_option maxRecDepth 100000 in
set_option maxHeartbeats 8000000 in
theorem deleteOf_any (w : World) {base lo : Nat} {a : Option Addr} {n c : Nat} {l : List Sp} {tb : Nat} {t : Int} (hO : OwnL Elt.sp 25 base lo w (.slice a n c) l) (hB : BoxN w tb 3 [.int .i64 t]) (hne : (Value.slice a n c).ownBlock ≠ some tb) (hn : l.length ≤ 1000000) :
    Calls Try.prog 65 #[.slice a n c, .func (.func 63) #[] #[.pointer (some ⟨tb, 0, none⟩)]] w fun e w' => ∃ k, e = .returned (.slice a k c) ∧ OwnL Elt.sp 25 base lo w' (.slice a k c) (notT t l) ∧ w.grownBy w' (Value.slice a n c).ownBlock := by
  obtain rfl : n = l.length := hO.len
  have hlm : l.length ≤ 9223372036854775807 := by omega
  have hEE := enters_of Try.func63 (by kernel_rfl) rfl
  go_enter Try.func65, Try.ntmps65
  go_wp2_with fail
  refine (indexOf_any w hB hO.rdL).mono ?_
  rintro e w1 ⟨i0, rfl, hi, hb⟩
  rcases hi with ⟨rfl, hno⟩ | ⟨j0, hj0, rfl, hy, hno⟩
  · have hfl := Lib.hid (show notT t l = l from List.filter_eq_self.2 fun x hx => by have := hno x hx; simpa using this)
    clear hno
    go_wp2_with fail
    go_ret
    exact ⟨_, rfl, by rw [hfl.out]; exact hO.below hb, grownB hb _⟩
  replace hO := hO.below hb
  replace hB := hB.below hb hB.lt
  obtain ⟨ns, ⟨hlen, hrow⟩, hflat⟩ := hO
  rcases hrow with ⟨_, h2⟩ | ⟨g, cap, cur, h1, hbg, h2, h3, h4, h5, h6⟩
  · omega
  injection h1 with h1 _ h1c
  subst h1 h1c
  have hg1 : (Value.slice (some ⟨g, 0, none⟩) l.length c).ownBlock = some g := rfl
  have hgl : g < w1.heap.size := (Array.getElem?_eq_some_iff.1 h2).1
  have hgt : g ≠ tb := fun e => hne (by rw [e]; rfl)
  have hR : RowQ 25 4 w1 (.slice (some ⟨g, 0, none⟩) l.length c) l.length ns := RowQ.of h2 h3 h4 h5 h6 hflat.one
  replace hflat : Flat Elt.sp (fun k => lo ≤ k ∧ k < w1.heap.size ∧ k ≠ g) w1 l ns := hflat.weak fun k hk => ⟨hk.1, hk.2.1, fun e => hk.2.2 (by rw [e]; rfl)⟩
  have r0 : DelR w1 g c lo tb t l (.int .i64 ((j0 : Nat) : Int)) (.int .i64 ((j0 : Int) + 1)) w1 := by
    refine ⟨j0, j0 + 1, ns, rfl, by go_num, by omega, by omega, hR, ?_, hflat.dropE (j0 + 1), hB, Below.refl _ _ |> fun h => grownB h _⟩
    rw [notT_snoc hj0, if_pos (by simpa using hy), List.append_nil, show notT t (l.take j0) = l.take j0 from List.filter_eq_self.2 fun x hx => by have := hno x hx; simpa using this]
    exact hflat.take j0
  have dj : decide ((j0 : Int) = -1) = false := decide_eq_false (by omega)
  have dj2 : ((j0 : Int) == -1) = false := beq_eq_false_iff_ne.2 (by omega)
  have hgb : w.grownBy w1 (some g) := grownB hb _
  clear hy hno hlen h2 h5 h6 hR hflat hB hb hne
  go_upto_region 5 with (fail)
  go_loopw [5, 6] (fun iv jv wr => DelR w1 g c lo tb t l iv jv wr) (fun _ jv _ => l.length - (intOf jv).toNat)
  case atStart => exact r0
  case round =>
    clear r0 dj dj2
    obtain ⟨i, j, vs, rfl, rfl, hij, hjl, hR, hF, hG, hB, q⟩ := hrel
    rcases Nat.lt_or_ge j l.length with hlt | hge
    · rw [List.drop_eq_getElem_cons hlt] at hG
      obtain ⟨us, rest, eus, ⟨kv, hv, rfl, hk1, hk2, hw64⟩, hG⟩ := hG
      obtain ⟨A1, C1, rfl, _, _⟩ := hk1.shape
      obtain ⟨A2, C2, rfl, _, _⟩ := hk2.shape
      obtain ⟨x, ex⟩ : ∃ x, x = l[j] := ⟨_, rfl⟩
      have hns := Lib.hid (show notT t (l.take (j + 1)) = notT t (l.take j) ++ (if x.table = t then [] else [x]) by rw [ex]; exact notT_snoc hlt)
      rw [← ex] at hk1 hk2 hw64 eus
      clear ex
      have hcq : ∀ q u, (spC x (.slice A1 x.lo.length C1) (.slice A2 x.hi.length C2))[q]? = some u → wr.cell? ⟨g, j * 4 + q, none⟩ = some u := fun q u hq => hR.cell rfl (by
        rw [← List.getElem?_drop, eus, List.getElem?_append_left (List.getElem?_eq_some_iff.1 hq).1]; exact hq)
      have c0 : wr.cell? ⟨g, j * 4, none⟩ = some (.int .i64 x.table) := hcq 0 _ rfl
      have c1 := hcq 1 _ rfl
      have c2 := hcq 2 _ rfl
      have c3 := hcq 3 _ rfl
      have hG2 := Lib.hid (show rest = vs.drop ((j + 1) * 4) by
        rw [show (j + 1) * 4 = j * 4 + 4 by omega, ← List.drop_drop, eus]; rfl)
      have zr := hR.lt rfl
      clear hcq eus
      go_upto_region 8 with (first | (refine wpList_boxNew (vs := [.int .i64 0, .slice none 0 0, .slice none 0 0, .bool false]) (by kernel_rfl) rfl rfl ?_; intro wa hba hBa) | (refine wpList_boxStore (us := [.int .i64 x.table, .slice A1 x.lo.length C1, .slice A2 x.hi.length C2, .bool x.isOpen]) (by kernel_rfl) rfl rfl rfl rfl rfl rfl hBa rfl ?_; intro W hgw hXW) | fail)
      go_simp
      have hbw : Below wr.heap.size wr W := hba.grown hgw hba.size fun k hk => by injection hk with hk; omega
      have zq := q.size
      have hkp : ∀ k, (lo ≤ k ∧ k < w1.heap.size ∧ k ≠ g) → W.heap[k]? = wr.heap[k]? := fun k hk => hbw.block k (by omega)
      have hx : RdSp (fun k => lo ≤ k ∧ k < w1.heap.size ∧ k ≠ g) W (.agg #[.int .i64 x.table, .slice A1 x.lo.length C1, .slice A2 x.hi.length C2, .bool x.isOpen]) x := ⟨_, _, _, _, rfl, hk1.keep hkp, hk2.keep hkp, hw64⟩
      replace hR := hR.below hbw
      replace hF := hF.keep hkp
      replace hG := hG.keep hkp
      replace hB := hB.below hbw hB.lt
      replace q := grownT q (grownB hbw (some g))
      clear c0 c1 c2 c3 hk1 hk2 hba hBa hgw hbw hkp zq zr
      have f0 := hXW.cell (i := 0) rfl
      have f1 := hXW.cell (i := 1) rfl
      have f2 := hXW.cell (i := 2) rfl
      have f3 := hXW.cell (i := 3) rfl
      go_wp2_with fail
      refine (sOf_any W hx hB).mono ?_
      rintro e w3 ⟨rfl, hb3⟩
      have zq := q.size
      have hkp : ∀ k, (lo ≤ k ∧ k < w1.heap.size ∧ k ≠ g) → w3.heap[k]? = W.heap[k]? := fun k hk => hb3.block k (by omega)
      have hx3 : RdSp (fun k => lo ≤ k ∧ k < w1.heap.size ∧ k ≠ g) w3 (.agg #[.int .i64 x.table, .slice A1 x.lo.length C1, .slice A2 x.hi.length C2, .bool x.isOpen]) x := hx.keep hkp
      replace hR := hR.below hb3
      replace hF := hF.keep hkp
      replace hG := hG.keep hkp
      replace hB := hB.below hb3 hB.lt
      replace hXW := hXW.below hb3 hXW.lt
      replace q := grownT q (grownB hb3 (some g))
      have hvl := hR.len
      clear f0 f1 f2 f3 hx hb3 hkp
      by_cases hxt : x.table = t
      · rw [decide_eq_true hxt]
        have hns2 := Lib.hid (show notT t (l.take (j + 1)) = notT t (l.take j) by rw [hns.out, if_pos hxt, List.append_nil])
        clear hxt hns hx3 hXW
        go_wp2_with fail
        go_roundw
        case rel => exact ⟨i, j + 1, vs, rfl, by go_num, by omega, by omega, hR, by rw [hns2.out]; exact hF, by rw [← hG2.out]; exact hG, hB, q⟩
        case measure => simp [intOf]; omega
      · rw [decide_eq_false hxt]
        have hns2 := Lib.hid (show notT t (l.take (j + 1)) = notT t (l.take j) ++ [x] by rw [hns.out, if_neg hxt])
        clear hxt hns
        have f0 := hXW.cell (i := 0) rfl
        have f1 := hXW.cell (i := 1) rfl
        have f2 := hXW.cell (i := 2) rfl
        have f3 := hXW.cell (i := 3) rfl
        have hil : ((i : Nat) : Int) < (l.length : Int) := by omega
        go_wp2_with (first | (refine wpList_putQ4 (f := i * 4) spS.hs rfl rfl rfl rfl rfl rfl rfl rfl rfl hR rfl (by omega) ?_; intro w4 hg4 hR4) | fail)
        have hkp : ∀ k, (lo ≤ k ∧ k < w1.heap.size ∧ k ≠ g) → w4.heap[k]? = w3.heap[k]? := fun k hk => hg4.block k (by have := q.size; omega) fun e => by injection e with e; exact hk.2.2 e
        have hxR : Elt.sp.R (fun k => lo ≤ k ∧ k < w1.heap.size ∧ k ≠ g) w4 x [.int .i64 x.table, .slice A1 x.lo.length C1, .slice A2 x.hi.length C2, .bool x.isOpen] := rdSp_R (hx3.keep hkp)
        have htb := hB.lt
        replace hB := hB.other hg4 fun e => by injection e with e; exact hgt e
        replace q := grownT q hg4
        replace hF := (hF.keep hkp).append (Flat.single hxR)
        replace hG := hG.keep hkp
        clear f0 f1 f2 f3 hXW hx3 hR hg4 hkp hxR
        go_roundw
        case rel => exact ⟨i + 1, j + 1, _, by go_num, by go_num, by omega, by omega, hR4, by rw [hns2.out, show (i + 1) * 4 = i * 4 + 4 by omega, put4_take (by omega) rfl]; exact hF, by rw [put4_drop (by omega) (by omega) rfl, ← hG2.out]; exact hG, hB, q⟩
        case measure => simp [intOf]; omega
    · obtain rfl : j = l.length := by omega
      rw [List.take_length] at hF
      have hvl := hR.len
      have hil : (notT t l).length = i := by
        have h := hF.len
        rw [List.length_take, hvl] at h
        have h2 : Elt.sp.size = 4 := rfl
        rw [h2] at h
        omega
      rcases hR.cases with ⟨h1, _, _⟩ | ⟨g', cap', cur', h1, hg3, h3', h4', h5', h6'⟩
      · cases h1
      injection h1 with h1 _ h1c
      injection h1 with h1
      injection h1 with h1 _ _
      subst h1 h1c
      have hcne : c ≠ i := by omega
      have d0 : decide ((l.length : Int) < (l.length : Int)) = false := decide_eq_false (by omega)
      clear hG hB
      go_wp2_with (go_big_may; first
        | (refine wpList_sliceFrom spP.toLsP rfl rfl rfl (l := i) (r := l.length) (run_bounds_l' _ (by omega) (by omega)) hcne ?_)
        | (refine wpList_clearQ spP sps1 rfl rfl rfl rfl hg3 (.inr rfl) (.inr (by rw [h5', Nat.zero_add, ← Nat.add_mul]; exact Nat.mul_le_mul_right _ (by omega))) ?_; intro W4 C4 hg4 hs4 ht4 _ hgr4)
        | (refine wpList_sliceTo spP.toLsP rfl rfl rfl (run_bounds_h _ (by omega)) ?_)
        | fail)
      go_ret
      have zq := q.size
      have z4 := hgr4.size
      have hF4 := (hF.keep (w' := W4) fun k hk => hgr4.block k (by omega) fun e => by injection e with e; exact hk.2.2 e).weak (S' := fun k => lo ≤ k ∧ k < W4.heap.size ∧ some k ≠ (Value.slice (some ⟨g, 0, none⟩) i c).ownBlock) fun k hk => ⟨hk.1, by omega, fun e => by injection e with e; exact hk.2.2 e⟩
      refine ⟨i, rfl, ⟨vs.take (i * 4), ⟨?_, .inr ⟨g, c, C4, by rw [hil], hbg, hg4, by rw [hil]; omega, h4', by rw [hs4, h5']; rfl, ?_⟩⟩, hF4⟩, grownT (grownT hgb q) hgr4⟩
      · rw [List.length_take, hvl, hil]
        show min (i * 4) _ = i * 4
        omega
      · rw [hil]
        show C4.toList.take (i * 4) = _
        have h7 := ht4 (by omega)
        have h8 : C4.toList.take (i * 4) = cur'.toList.take (i * 4) := by
          first
            | exact h7
            | simpa using h7
        rw [h8, ← h6', List.take_take]
        congr 1
        omega
end Go.Proofs.Ytmcleffpjfeegaa
namespace Go.Proofs.Ytmcleffpjfeegaa
open Go.RowKit Go.Shelf
section
variable {α : Type} {E : Elt α} {S : Nat → Prop} {w w' : World}
theorem OwnL.rowQS {Te : TypeId} {base lo : Nat} {v : Value} {xs : List α} (h : OwnL E Te base lo w v xs) : ∃ vs, RowQ Te E.size w v xs.length vs ∧ Flat E (fun k => lo ≤ k ∧ k < w.heap.size ∧ some k ≠ v.ownBlock) w xs vs := by
  obtain ⟨vs, h1, h2⟩ := h
  exact ⟨vs, ⟨⟨h1.1, h1.2.imp id fun ⟨g, cap, cur, a, b, c⟩ => ⟨g, cap, cur, a, Nat.zero_le _, c⟩⟩, h2.one⟩, h2⟩
theorem OwnL.rowToS {Te : TypeId} {base lo : Nat} {v v' : Value} {xs xs' : List α} {vs' : List Value} {n' : Nat} (h : OwnL E Te base lo w v xs) (hT : RowTo Te E.size w v n' vs' v' w') (hF : Flat E (fun k => lo ≤ k ∧ k < w.heap.size ∧ some k ≠ v.ownBlock) w xs' vs') (hn : n' = xs'.length) (hb : base ≤ w.heap.size) : OwnL E Te base lo w' v' xs' := by
  obtain ⟨hq, hg, hv⟩ := hT
  subst hn
  have hne : ∀ g, v'.ownBlock = some g → base ≤ g := fun g e2 => by
    rcases hv with hv | ⟨k, hv, hk⟩
    · exact (h.block_lt g (hv.symm.trans e2)).1
    · rw [e2] at hv; injection hv with hv; omega
  refine ⟨vs', ⟨hq.1.1, ?_⟩, (hF.keep fun k hk => hg.block k hk.2.1 hk.2.2).weak fun k hk => ⟨hk.1, Nat.lt_of_lt_of_le hk.2.1 hg.size, ?_⟩⟩
  · rcases hq.1.2 with h1 | ⟨g, cap, cur, e, _, c⟩
    · exact .inl h1
    · exact .inr ⟨g, cap, cur, e, hne g (by rw [e]; rfl), c⟩
  · rcases hv with hv | ⟨j, hv, hj⟩
    · rw [hv]; exact hk.2.2
    · rw [hv]; intro e; injection e with e; omega
end
theorem BoxN.other' {W W' : World} {b : Nat} {t : TypeId} {vs : List Value} {c : Option Nat} (h : BoxN W b t vs) (hg : W.grownBy W' c) (hn : c ≠ some b) : BoxN W' b t vs := (hg.block b h.lt fun e => hn e.symm).trans h
theorem oneT_true (t : Int) : ∀ l : List Sp, oneT t true l = notT t l
  | [] => rfl
  | s :: l => by
    unfold oneT notT
    rw [List.filter_cons]
    by_cases h : s.table = t
    · simp [h, oneT_true t l, notT]
    · simp [h, oneT_true t l, notT]
theorem oneT_at (t : Int) : ∀ (l : List Sp) (j : Nat) (h : j < l.length), l[j].table = t → (∀ y ∈ l.take j, y.table ≠ t) → oneT t false l = (notT t l).take j ++ [allS t] ++ (notT t l).drop j ∧ j ≤ (notT t l).length
  | s :: l, 0, _, he, _ => by
    have he : s.table = t := he
    unfold oneT
    rw [if_pos he, if_neg (by simp), oneT_true]
    have : notT t (s :: l) = notT t l := by unfold notT; rw [List.filter_cons]; simp [he]
    rw [this]
    simp
  | s :: l, j + 1, h, he, hno => by
    have hs : s.table ≠ t := hno s (by simp)
    obtain ⟨h1, h2⟩ := oneT_at t l j (by simpa using h) (by simpa using he) fun y hy => hno y (by simp [hy])
    have : notT t (s :: l) = s :: notT t l := by unfold notT; rw [List.filter_cons]; simp [hs]
    unfold oneT
    rw [if_neg hs, h1, this]
    simp
    exact h2
def boundS (l : List Sp) (t m : Int) : List Sp := if (manyT t l : Int) ≤ m then l else oneT t false l
theorem manyT_snoc {t : Int} {l : List Sp} {k : Nat} (h : k < l.length) : manyT t (l.take (k + 1)) = manyT t (l.take k) + (if l[k].table = t then 1 else 0) := by
  unfold manyT
  rw [List.take_succ_eq_append_getElem h, List.countP_append]
  congr 1
  by_cases e : l[k].table = t <;> simp [e]
theorem manyT_le (t : Int) (l : List Sp) : manyT t l ≤ l.length := List.countP_le_length
def BdJ (base lo : Nat) (W : World) (r : Option Nat) (a : Option Addr) (c : Nat) (t : Int) (l : List Sp) : List Value → World → Prop
  | [], V => Below W.heap.size W V
  | [v], V => W.grownBy V r ∧ ∃ k, v = .slice a k c ∧ OwnL Elt.sp 25 base lo V (.slice a k c) (notT t l)
  | _ :: u :: rest, V => (∀ y ∈ rest, y = u) ∧ W.grownBy V r ∧ ∃ a' k' c', u = .slice a' k' c' ∧ OwnL Elt.sp 25 base lo V (.slice a' k' c') (oneT t false l)
theorem BdJ.below {base lo : Nat} {W : World} {r : Option Nat} {a : Option Addr} {c : Nat} {t : Int} {l : List Sp} : ∀ (vs : List Value) (V V' : World), BdJ base lo W r a c t l vs V → Below V.heap.size V V' → BdJ base lo W r a c t l vs V'
  | [], _, _, h, hb => Below.trans h (hb.mono (Below.size h))
  | [_], _, _, ⟨h, k, e, hO⟩, hb => ⟨grownT h (grownB hb r), k, e, hO.below hb⟩
  | _ :: _ :: _, _, _, ⟨h0, h, a', k', c', e, hO⟩, hb => ⟨h0, grownT h (grownB hb r), a', k', c', e, hO.below hb⟩
theorem BdJ.grown {base lo : Nat} {W : World} {r : Option Nat} {a : Option Addr} {c : Nat} {t : Int} {l : List Sp} : ∀ {vs : List Value} {V : World}, BdJ base lo W r a c t l vs V → W.grownBy V r
  | [], _, h => grownB h r
  | [_], _, ⟨h, _⟩ => h
  | _ :: _ :: _, _, ⟨_, h, _⟩ => h
set_option maxRecDepth 100000 in
set_option maxHeartbeats 8000000 in
theorem bounded_any (w : World) {base lo : Nat} {a : Option Addr} {n c : Nat} {l : List Sp} {t m : Int} (hO : OwnL Elt.sp 25 base lo w (.slice a n c) l) (ht : W64 t) (hm : 0 ≤ m) (hn : l.length ≤ 900000) (hbase : base ≤ w.heap.size) (hlo : lo ≤ w.heap.size) :
    Calls Try.prog 45 #[.slice a n c, .int .i64 t, .int .i64 m] w fun e w' => ∃ a' k' c', e = .returned (.slice a' k' c') ∧ OwnL Elt.sp 25 base lo w' (.slice a' k' c') (boundS l t m) ∧ w.grownBy w' (Value.ownBlock (.slice a n c)) := by
  obtain rfl : n = l.length := hO.len
  have hlm : l.length ≤ 9223372036854775807 := by omega
  have hEE := enters_of Try.func63 (by kernel_rfl) rfl
  have eD : ∀ args w, (callFunc 65 args).run Try.prog w = .ok (.enter 65 args) w := enters_of Try.func65 (by kernel_rfl) rfl
  have eA : ∀ args w, (callFunc 66 args).run Try.prog w = .ok (.enter 66 args) w := enters_of Try.func66 (by kernel_rfl) rfl
  have eI : ∀ args w, (callFunc 64 args).run Try.prog w = .ok (.enter 64 args) w := enters_of Try.func64 (by kernel_rfl) rfl
  have hob : ∀ k, Value.ownBlock (.slice a l.length c) = some k → base ≤ k ∧ k < w.heap.size := fun k hk => hO.block_lt k hk
  obtain ⟨W0, hW, q0, Bt, hsz⟩ := spBox w 3 [.int .i64 t]
  go_enter Try.func45, Try.ntmps45
  go_upto_region 1 with (fail)
  rw [show w.alloc (.cells #[.int .i64 t] 3) = W0 from hW.symm]
  clear hW hsz
  replace hO := hO.below q0
  have z0 := Bt.lt
  go_wp2_with fail
  refine (indexOf_any W0 Bt hO.rdL).mono ?_
  rintro e w1 ⟨i0, rfl, hi, hb⟩
  have q1 := q0.trans (hb.mono q0.size)
  have hB1 := Bt.below hb Bt.lt
  replace hO := hO.below hb
  replace hi := Lib.hid hi
  clear hb Bt q0 z0
  go_upto_region 4 with (fail)
  go_loopw [9, 18] (fun mv iv wr => ∃ (k : Nat), iv = .int .i64 k ∧ k ≤ l.length ∧ mv = .int .i64 (manyT t (l.take k) : Nat) ∧ BoxN wr w.heap.size 3 [.int .i64 t] ∧ Below w1.heap.size w1 wr)
    (fun _ i _ => l.length - (intOf i).toNat)
  case atStart => exact ⟨0, rfl, Nat.zero_le _, rfl, hB1, Below.refl _ _⟩
  case round =>
    clear hB1
    obtain ⟨k, rfl, hkl, rfl, hB, q⟩ := hrel
    have hmle : manyT t (l.take k) ≤ l.length := Nat.le_trans (manyT_le _ _) (by rw [List.length_take]; omega)
    rcases Nat.lt_or_ge k l.length with hlt | hge
    · obtain ⟨b, off, KA, KC, VA, VC, rfl, hb, c0, c1, c2, c3, hk1, hk2, hts⟩ := ((hO.below q).rdL).sp k hlt
      have hsn := Lib.hid (manyT_snoc (t := t) hlt)
      obtain ⟨s, es⟩ : ∃ s, s = l[k] := ⟨_, rfl⟩
      obtain ⟨mk, emk⟩ : ∃ mk, mk = manyT t (l.take k) := ⟨_, rfl⟩
      rw [← es] at c0 c1 c2 c3 hk1 hk2 hts hsn
      rw [← emk] at hmle hsn
      rw [← emk]
      clear es emk
      go_upto_region 6 with (first | (refine wpList_boxNew (vs := [.int .i64 0, .slice none 0 0, .slice none 0 0, .bool false]) (by kernel_rfl) rfl rfl ?_; intro wa hba hBa) | (refine wpList_boxStore (us := [.int .i64 s.table, .slice KA s.lo.length KC, .slice VA s.hi.length VC, .bool s.isOpen]) (by kernel_rfl) rfl rfl rfl rfl rfl rfl hBa rfl ?_; intro W hgw hXW) | fail)
      go_simp
      have hbw : Below wr.heap.size wr W := hba.grown hgw hba.size fun k hk => by injection hk with hk; omega
      have hss : RdSp _ W (.agg #[.int .i64 s.table, .slice KA s.lo.length KC, .slice VA s.hi.length VC, .bool s.isOpen]) s := ⟨_, _, _, _, rfl, hk1.below hbw, hk2.below hbw, hts⟩
      replace hB := hB.below hbw hB.lt
      replace q := q.trans (hbw.mono q.size)
      clear c0 c1 c2 c3 hba hBa hgw hbw hk1 hk2 hts
      have f0 := hXW.cell (i := 0) rfl
      have f1 := hXW.cell (i := 1) rfl
      have f2 := hXW.cell (i := 2) rfl
      have f3 := hXW.cell (i := 3) rfl
      go_wp2_with fail
      refine (sOf_any W hss hB).mono ?_
      rintro e w3 ⟨rfl, hb3⟩
      replace hB := hB.below hb3 hB.lt
      replace q := q.trans (hb3.mono q.size)
      clear f0 f1 f2 f3 hss hXW hb3
      by_cases hst : s.table = t
      · rw [decide_eq_true hst]
        have hs2 := Lib.hid (show manyT t (l.take (k + 1)) = mk + 1 by rw [hsn.out, if_pos hst])
        clear hst hsn
        go_wp2_with fail
        go_roundw
        case rel => exact ⟨k + 1, by go_num, by omega, by rw [hs2.out]; go_num, hB, q⟩
        case measure => simp [intOf]; omega
      · rw [decide_eq_false hst]
        have hs2 := Lib.hid (show manyT t (l.take (k + 1)) = mk by rw [hsn.out, if_neg hst]; rfl)
        clear hst hsn
        go_wp2_with fail
        go_roundw
        case rel => exact ⟨k + 1, by go_num, by omega, by rw [hs2.out], hB, q⟩
        case measure => simp [intOf]; omega
    · obtain rfl : k = l.length := by omega
      rw [List.take_length] at hmle
      rw [List.take_length]
      replace hO := hO.below q
      have qr := q1.trans (q.mono q1.size)
      have zr := qr.size
      by_cases hmm : (manyT t l : Int) ≤ m
      · have d1 : decide ((manyT t l : Int) ≤ m) = true := decide_eq_true hmm
        have H := Lib.hid (show boundS l t m = l from if_pos hmm)
        clear hmm hi
        go_wp2_with fail
        go_ret
        exact ⟨_, _, _, rfl, by rw [H.out]; exact hO, grownB qr _⟩
      have d1 : decide ((manyT t l : Int) ≤ m) = false := decide_eq_false hmm
      have H := Lib.hid (show boundS l t m = oneT t false l from if_neg hmm)
      obtain ⟨j0, hj0, rfl, hy, hno⟩ : ∃ (j : Nat) (h : j < l.length), i0 = (j : Int) ∧ decide (l[j].table = t) = true ∧ ∀ y ∈ l.take j, decide (y.table = t) = false := by
        rcases hi.out with ⟨_, h2⟩ | h
        · exfalso
          have : manyT t l = 0 := List.countP_eq_zero.2 fun y hy => by have := h2 y hy; simpa using this
          omega
        · exact h
      obtain ⟨hon, hjn⟩ := oneT_at t l j0 hj0 (by simpa using hy) fun y hy => by simpa using hno y hy
      have hone := Lib.hid hon
      have hnl : (notT t l).length ≤ l.length := List.length_filter_le _ _
      clear hi hy hno hon hmm
      have hrW : ∀ k, Value.ownBlock (.slice a l.length c) = some k → k < wr.heap.size := fun k hk => by have := hob k hk; omega
      have hS : ∀ k, (fun _ => False) k → some k ≠ Value.ownBlock (.slice a l.length c) := fun _ h => h.elim
      have hne : Value.ownBlock (.slice a l.length c) ≠ some w.heap.size := fun e => by have := hob _ e; omega
      have hBr := hne
      replace hbase := Nat.le_trans hbase zr
      replace hlo := Nat.le_trans hlo zr
      go_upto_region 11 with (fail)
      refine wp_region_lnl (K := fun A B => A.grownBy B (Value.ownBlock (.slice a l.length c))) (by kernel_rfl) (by kernel_rfl) [2, 7, 8] (by kernel_rfl) [lEq (.slice a l.length c), lEq (.func (.func 63) #[] #[.pointer (some ⟨w.heap.size, 0, none⟩)]), lAny, lEq (.int .i64 (j0 : Nat)), lEq (.int .i64 t), aElt Elt.sp wr (Value.ownBlock (.slice a l.length c)) (fun _ => False) (allS t) hrW hS, aRow Elt.sp 25 wr (Value.ownBlock (.slice a l.length c)) (fun _ => False) (allS t) hrW hS, lAny, lAny] (BdJ base lo wr (Value.ownBlock (.slice a l.length c)) a c t l) BdJ.below (show Below wr.heap.size wr wr from Below.refl _ _)
        ⟨?o0, ?o1, ?o2, ?o3, ?o4, ?o5, ?o6, ?o7, ?o8, trivial⟩ ?fin
      case o0 =>
        refine LnOp.side rfl (by kernel_rfl) (fun A va w' k hF hT hk hJ hb hu hp hd => ?_)
        have e1 : A.eval (.tmp 0) = .slice a l.length c := hF 0 rfl
        exact BigFrame.wp_move _ rfl ⟨_, rfl, e1, Below.refl _ _⟩
      case o1 =>
        refine LnOp.side rfl (by kernel_rfl) (fun A va w' k hF hT hk hJ hb hu hp hd => ?_)
        have e1 : A.eval (.tmp 7) = .func (.func 63) #[] #[.pointer (some ⟨w.heap.size, 0, none⟩)] := hF 7 rfl
        exact BigFrame.wp_move _ rfl ⟨_, rfl, e1, Below.refl _ _⟩
      case o2 =>
        refine LnOp.line 0 rfl rfl (fun A va w' hF hT hJ hu hd => ?_)
        have e1 : A.eval (.tmp 32) = .slice a l.length c := (hT 32 0 (by simp) rfl).trans (hd ⟨0, .data⟩ (by simp) rfl rfl)
        have e2 : A.eval (.tmp 33) = .func (.func 63) #[] #[.pointer (some ⟨w.heap.size, 0, none⟩)] := (hT 33 1 (by simp) rfl).trans (hd ⟨1, .data⟩ (by simp) rfl rfl)
        have hJ0 : Below wr.heap.size wr w' := hJ
        refine wp_callFn rfl eD (args := #[.slice a l.length c, .func (.func 63) #[] #[.pointer (some ⟨w.heap.size, 0, none⟩)]]) (by simp only [List.map_toArray, List.map_cons, List.map_nil, e1, e2]) ((deleteOf_any w' (hO.below hJ0) (hB.below hJ0 hB.lt) hne (by omega)).mono ?_)
        rintro e w2 ⟨k, rfl, hO2, hg2⟩
        exact ⟨_, rfl, _, rfl, ⟨grownT (grownB hJ0 _) hg2, k, rfl, hO2⟩, hg2⟩
      case o3 =>
        refine LnOp.side rfl (by kernel_rfl) (fun A va w' k hF hT hk hJ hb hu hp hd => ?_)
        have e1 : A.eval (.tmp 8) = .int .i64 (j0 : Nat) := hF 8 rfl
        exact BigFrame.wp_move _ rfl ⟨_, rfl, e1, Below.refl _ _⟩
      case o4 =>
        refine LnOp.side rfl (by kernel_rfl) (fun A va w' k hF hT hk hJ hb hu hp hd => ?_)
        have e1 : A.eval (.tmp 4) = .pointer (some ⟨w.heap.size, 0, none⟩) := hF 4 rfl
        have hJg := BdJ.grown hJ
        exact wp_ld_int (k := .i64) rfl e1 (by kernel_rfl) ((hB.other' hJg hBr).cell (i := 0) rfl) ⟨_, rfl, rfl, Below.refl _ _⟩
      case o5 =>
        refine LnOp.side rfl (by kernel_rfl) (fun A va w' k hF hT hk hJ hb hu hp hd => ?_)
        have e1 : A.eval (.tmp 36) = .int .i64 t := (hT 36 4 (by simp) rfl).trans (hd ⟨4, .data⟩ (by simp) rfl rfl)
        have hJg := BdJ.grown hJ
        refine wp_callFn rfl eA (args := #[.int .i64 t]) (by simp only [List.map_toArray, List.map_cons, List.map_nil, e1]) ((sAll_any w' ht).mono ?_)
        rintro e w2 ⟨v, rfl, ⟨a1, c1, a2, c2, rfl, h1, h2, h3⟩, hb2⟩
        exact ⟨_, rfl, _, rfl, ⟨[.int .i64 t, .slice a1 (allS t).lo.length c1, .slice a2 (allS t).hi.length c2, .bool true], rfl, _, _, rfl, h1.weak fun k hk => ⟨.inr (Nat.le_trans hJg.size hk.1), hk.2⟩, h2.weak fun k hk => ⟨.inr (Nat.le_trans hJg.size hk.1), hk.2⟩, h3⟩, hb2⟩
      case o6 =>
        refine LnOp.side rfl (by kernel_rfl) (fun A va w' k hF hT hk hJ hb hu hp hd => ?_)
        have x1 : A.eval (.tmp 37) = va 5 := hT 37 5 (by simp) rfl
        have y1 := hd ⟨5, .data⟩ (by simp) rfl rfl
        have hJg := BdJ.grown hJ
        obtain ⟨us, eus, hR⟩ : ∃ us : List Value, (va 5).cells = us.toArray ∧ Elt.R Elt.sp (inNew (fun _ => False) wr w') w' (allS t) us := y1
        exact wp_buildOne spP rfl x1 eus (Elt.len _ hR) (by decide) (by decide) ⟨_, rfl, aRow.mk (hr := hrW) (hS := hS) hJg.size hR, (Below.refl _ _).alloc (Nat.le_refl _) _⟩
      case o7 =>
        refine LnOp.line 1 rfl rfl (fun A va w' hF hT hJ hu hd => ?_)
        have x1 : A.eval (.tmp 34) = va 2 := hT 34 2 (by simp) rfl
        have e2 : A.eval (.tmp 35) = .int .i64 (j0 : Nat) := (hT 35 3 (by simp) rfl).trans (hd ⟨3, .data⟩ (by simp) rfl rfl)
        have x3 : A.eval (.tmp 38) = va 6 := hT 38 6 (by simp) rfl
        have y3 := hd ⟨6, .data⟩ (by simp) rfl rfl
        obtain ⟨hg0, k, ek, hO2⟩ := hJ
        obtain ⟨b9, us, eb, hb0, hbc, hR⟩ : ∃ g, ∃ us : List Value, va 6 = .slice (some ⟨g, 0, none⟩) 1 1 ∧ wr.heap.size ≤ g ∧ w'.heap[g]? = some (.cells us.toArray 25 (0, 0)) ∧ Elt.sp.R (inNew (fun _ => False) wr w') w' (allS t) us := y3
        obtain rfl : k = (notT t l).length := hO2.len
        have hown : Value.ownBlock (.slice a (notT t l).length c) = Value.ownBlock (.slice a l.length c) := by cases a <;> rfl
        obtain ⟨vs, hQ, hF⟩ := hO2.rowQS
        have hul : us.length = 1 * 4 := Elt.len _ hR
        refine wp_callFn rfl eI (args := #[.slice a (notT t l).length c, .int .i64 (j0 : Nat), .slice (some ⟨b9, 0, none⟩) 1 1]) (by simp only [List.map_toArray, List.map_cons, List.map_nil, x1.trans ek, e2, x3.trans eb]) ((insert_s w' (v := .slice a (notT t l).length c) (n := (notT t l).length) (i := j0) (m := 1) hQ hjn (by omega) (by omega) hbc hul (Elt.one _ hR) (fun e => by have := hrW b9 (hown.symm.trans e); omega)).mono ?_)
        rintro e w2 ⟨v', rfl, hT⟩
        have hO3 := hO2.rowToS (xs' := oneT t false l) hT (by rw [hone.out]; exact ((Flat.take hF j0).append (Flat.single (Elt.weak _ hR fun k hk => ⟨Nat.le_trans hlo (hk.1.resolve_left id), hk.2, fun e => by have := hrW k (hown.symm.trans e.symm); have := hk.1.resolve_left id; omega⟩))).append (hF.dropE j0)) (by rw [hone.out]; simp; omega) (Nat.le_trans hbase hg0.size)
        obtain ⟨a', c', rfl⟩ := hO3.shape
        exact ⟨_, rfl, _, rfl, ⟨(fun y hy => by cases hy), grownT hg0 (hown ▸ hT.2.1), a', _, c', rfl, hO3⟩, hown ▸ hT.2.1⟩
      case o8 =>
        refine LnOp.line 2 rfl rfl (fun A va w' hF hT hJ hu hd => ?_)
        have x1 : A.eval (.tmp 39) = va 7 := hT 39 7 (by simp) rfl
        obtain ⟨hg0, hg1, hO2⟩ := hJ
        exact BigFrame.wp_assign _ rfl ⟨_, rfl, ⟨fun y hy => by rw [List.mem_singleton.1 hy]; exact x1, hg1, hO2⟩, grownB (Below.refl _ _) _⟩
      case fin =>
        intro vs1 W9 hJ hG
        obtain ⟨hsame, hg9, a9, k9, c9, e9, hO9⟩ := hJ
        have ea := hsame _ (List.mem_singleton.2 rfl)
        clear hG hsame
        simp only [putAll, ea, e9]
        clear ea e9
        go_simp
        go_wp2_with fail
        go_ret
        exact ⟨_, _, _, rfl, by rw [H.out]; exact hO9, grownT (grownB qr _) hg9⟩
end Go.Proofs.Ytmcleffpjfeegaa
namespace Go.Proofs.Ytmcleffpjfeegaa
open Go.RowKit Go.Shelf
def AdEnd (w : World) (r : List Sp × Nat) (e : Ending) (w' : World) : Prop := ∃ a k c, e = .returned (.tuple #[.slice a k c, .int .i64 (r.2 : Nat)]) ∧ OwnL Elt.sp 25 w.heap.size w.heap.size w' (.slice a k c) r.1 ∧ Below w.heap.size w w'
def AdJ (w : World) (B : Nat) (W : World) (b : Nat) (XB : List Value) (x : Sp) (xs : List Sp) (m : Int) : List Value → World → Prop
  | [], V => Below W.heap.size W V ∧ BoxN V b 25 XB
  | [v], V => Below W.heap.size W V ∧ BoxN V b 25 XB ∧ RdSp (fun k => W.heap.size ≤ k ∧ k < V.heap.size) V v x
  | [_, u], V => Below W.heap.size W V ∧ BoxN V b 25 XB ∧ ∃ g, ∃ us : List Value, u = .slice (some ⟨g, 0, none⟩) 1 1 ∧ W.heap.size ≤ g ∧ V.heap[g]? = some (.cells us.toArray 25 (0, 0)) ∧ Elt.sp.R (fun k => W.heap.size ≤ k ∧ k < V.heap.size) V x us
  | [_, _, u], V => Below w.heap.size w V ∧ BoxN V b 25 XB ∧ W.heap.size ≤ V.heap.size ∧ ∃ ad c, u = .slice ad (xs ++ [x]).length c ∧ OwnL Elt.sp 25 B B V (.slice ad (xs ++ [x]).length c) (xs ++ [x])
  | [_, _, _, u], V => Below w.heap.size w V ∧ ∃ a k c, u = .slice a k c ∧ OwnL Elt.sp 25 B B V (.slice a k c) (boundS (xs ++ [x]) x.table m)
  | _ :: _ :: _ :: u :: y :: _, V => y = u ∧ Below w.heap.size w V ∧ ∃ a k c, u = .slice a k c ∧ OwnL Elt.sp 25 B B V (.slice a k c) (boundS (xs ++ [x]) x.table m)
theorem AdJ.below {w : World} {B : Nat} {W : World} {b : Nat} {XB : List Value} {x : Sp} {xs : List Sp} {m : Int} : ∀ (l : List Value) (V V' : World), AdJ w B W b XB x xs m l V → Below V.heap.size V V' → AdJ w B W b XB x xs m l V'
  | [], _, _, ⟨h, h1⟩, hb => ⟨h.trans (hb.mono h.size), h1.below hb h1.lt⟩
  | [_], _, _, ⟨h, h1, h2⟩, hb => ⟨h.trans (hb.mono h.size), h1.below hb h1.lt, (h2.below hb).weak fun _ hk => ⟨hk.1, Nat.lt_of_lt_of_le hk.2 hb.size⟩⟩
  | [_, _], _, _, ⟨h, h1, g, us, e, h2, h3, h4⟩, hb => ⟨h.trans (hb.mono h.size), h1.below hb h1.lt, g, us, e, h2, (hb.block g (Array.getElem?_eq_some_iff.1 h3).1).trans h3, Elt.sp.weak (Elt.below h4 hb) fun _ hk => ⟨hk.1, Nat.lt_of_lt_of_le hk.2 hb.size⟩⟩
  | [_, _, _], _, _, ⟨h, h1, hs, ad, c, e, h2⟩, hb => ⟨h.trans (hb.mono h.size), h1.below hb h1.lt, Nat.le_trans hs hb.size, ad, c, e, h2.below hb⟩
  | [_, _, _, _], _, _, ⟨h, a, k, c, e, h2⟩, hb => ⟨h.trans (hb.mono h.size), a, k, c, e, h2.below hb⟩
  | _ :: _ :: _ :: _ :: _ :: _, _, _, ⟨e0, h, a, k, c, e, h2⟩, hb => ⟨e0, h.trans (hb.mono h.size), a, k, c, e, h2.below hb⟩
set_option maxRecDepth 100000 in
set_option maxHeartbeats 8000000 in
theorem sAdd_any (w : World) {S S2 : Nat → Prop} {a : Option Addr} {n c : Nat} {l : List Sp} {v : Value} {x : Sp} {m : Int} (hl : RdL Elt.sp S w (.slice a n c) l) (hs : smL l) (hn : l.length ≤ 800000) (hx : RdSp S2 w v x) (hxs : smS x) :
    Calls Try.prog 24 #[.slice a n c, v, .int .i64 m] w (AdEnd w (addS l x m)) := by
  obtain ⟨rfl, hnc, hcm⟩ := hl.len
  have hxf := hx.fit
  obtain ⟨hx1, hx2⟩ := hxs
  have eA : ∀ args w, (callFunc 46 args).run Try.prog w = .ok (.enter 46 args) w := enters_of Try.func46 (by kernel_rfl) rfl
  have eB : ∀ args w, (callFunc 45 args).run Try.prog w = .ok (.enter 45 args) w := enters_of Try.func45 (by kernel_rfl) rfl
  have hEE := enters_of Try.func41 (by kernel_rfl) rfl
  obtain ⟨p1, p2, p3, p4, rfl, hlx, hhx, htx⟩ := hx
  obtain ⟨W0, hW, q, Bx, hsz⟩ := spBox w 25 [.int .i64 x.table, .slice p1 x.lo.length p2, .slice p3 x.hi.length p4, .bool x.isOpen]
  go_enter Try.func24, Try.ntmps24
  go_upto_region 1 with (fail)
  rw [show w.alloc (.cells #[.int .i64 x.table, .slice p1 x.lo.length p2, .slice p3 x.hi.length p4, .bool x.isOpen] 25) = W0 from hW.symm]
  clear hW hlx hhx
  have c0 := Bx.cell (i := 0) rfl
  have c1 := Bx.cell (i := 1) rfl
  have c2 := Bx.cell (i := 2) rfl
  have c3 := Bx.cell (i := 3) rfl
  go_wp2_with fail
  refine (sWrong_any W0 (hxf.below q)).mono ?_
  rintro e w1 ⟨rfl, hb⟩
  have z1 := hb.size
  replace q := q.trans (hb.mono q.size)
  replace Bx := Bx.below hb Bx.lt
  clear c0 c1 c2 c3 hb
  by_cases hmx : mayS x
  case neg =>
    rw [decide_eq_false hmx]
    have H := Lib.hid (show addS l x m = (l, 1) from if_neg fun h => hmx h.1)
    clear hmx
    go_wp2_with fail
    refine (copied_any w1 (hl.below q) hs).mono ?_
    rintro e w2 ⟨a', c', rfl, hO, hb2⟩
    go_wp2_with fail
    go_ret2
    rw [H.out]
    exact ⟨_, _, _, rfl, hO.to q.size q.size, q.trans (hb2.mono q.size)⟩
  rw [decide_eq_true hmx]
  replace hmx := Lib.hid hmx
  by_cases hm1 : 1 ≤ m
  case neg =>
    have d1 : decide (m < 1) = true := decide_eq_true (by omega)
    have H := Lib.hid (show addS l x m = (l, 1) from if_neg fun h => hm1 h.2.2.1)
    clear hm1
    go_wp2_with fail
    refine (copied_any w1 (hl.below q) hs).mono ?_
    rintro e w2 ⟨a', c', rfl, hO, hb2⟩
    go_wp2_with fail
    go_ret2
    rw [H.out]
    exact ⟨_, _, _, rfl, hO.to q.size q.size, q.trans (hb2.mono q.size)⟩
  have d1 : decide (m < 1) = false := decide_eq_false (by omega)
  by_cases hm2 : m ≤ 100
  case neg =>
    have d2 : decide (100 < m) = true := decide_eq_true (by omega)
    have H := Lib.hid (show addS l x m = (l, 1) from if_neg fun h => hm2 h.2.2.2)
    clear hm1 hm2
    go_wp2_with fail
    refine (copied_any w1 (hl.below q) hs).mono ?_
    rintro e w2 ⟨a', c', rfl, hO, hb2⟩
    go_wp2_with fail
    go_ret2
    rw [H.out]
    exact ⟨_, _, _, rfl, hO.to q.size q.size, q.trans (hb2.mono q.size)⟩
  have d2 : decide (100 < m) = false := decide_eq_false (by omega)
  go_wp2_with fail
  refine (containsWrong_any w1 (hl.below q)).mono ?_
  rintro e w2 ⟨rfl, hb⟩
  have z2 := hb.size
  replace q := q.trans (hb.mono q.size)
  replace Bx := Bx.below hb Bx.lt
  clear hb
  by_cases hal : ∀ y ∈ l, mayS y
  case neg =>
    rw [decide_eq_false hal]
    have H := Lib.hid (show addS l x m = (l, 1) from if_neg fun h => hal h.2.1)
    clear hal
    go_wp2_with fail
    refine (copied_any w2 (hl.below q) hs).mono ?_
    rintro e w3 ⟨a', c', rfl, hO, hb2⟩
    go_wp2_with fail
    go_ret2
    rw [H.out]
    exact ⟨_, _, _, rfl, hO.to q.size q.size, q.trans (hb2.mono q.size)⟩
  rw [decide_eq_true hal]
  have hok := Lib.hid (show okA l x m from ⟨hmx.out, hal, hm1, hm2⟩)
  clear hal d1 d2
  have c0 := Bx.cell (i := 0) rfl
  have c1 := Bx.cell (i := 1) rfl
  have c2 := Bx.cell (i := 2) rfl
  have c3 := Bx.cell (i := 3) rfl
  have hbs := beside_any w2 (hl.below q) hs (hxf.below q)
  go_wp2_with fail
  refine hbs.mono ?_
  rintro e w3 ⟨u, rfl, hu, hb⟩
  have q2 := q
  have z3 := hb.size
  replace q := q.trans (hb.mono q.size)
  replace Bx := Bx.below hb Bx.lt
  clear hb hbs c0 c1 c2 c3
  cases hst : stays l x with
  | true =>
    have H := Lib.hid (show addS l x m = (l, 0) by unfold addS; rw [if_pos hok.out, if_pos hst])
    clear hst hu
    go_wp2_with fail
    refine (copied_any w3 (hl.below q) hs).mono ?_
    rintro e w4 ⟨a', c', rfl, hO, hb2⟩
    go_wp2_with fail
    go_ret2
    rw [H.out]
    exact ⟨_, _, _, rfl, hO.to q.size q.size, q.trans (hb2.mono q.size)⟩
  | false =>
    obtain ⟨ad, ko, rfl, hO⟩ := hu hst
    have H := Lib.hid (show addS l x m = (boundS (besideS l x ++ [x]) x.table m, 0) by
      unfold addS boundS
      rw [if_pos hok.out, if_neg (by rw [hst]; simp)]
      split <;> rfl)
    obtain ⟨xs, exs⟩ : ∃ xs, xs = besideS l x := ⟨_, rfl⟩
    have hxl : xs.length ≤ 800000 := by rw [exs]; exact Nat.le_trans (List.length_filter_le _ _) hn
    rw [← exs] at hO H
    rw [← exs]
    clear exs hst hu hok hmx
    obtain ⟨B, hB⟩ : ∃ B, B = w2.heap.size := ⟨_, rfl⟩
    rw [← hB] at hO z3
    have zB : w.heap.size < B := by have := Bx.lt; have := q2.size; omega
    have hob : ∀ k, Value.ownBlock (.slice ad xs.length ko) = some k → B ≤ k ∧ k < w3.heap.size := fun k hk => hO.block_lt k hk
    go_upto_region 7 with (fail)
    obtain ⟨W, hWe⟩ : ∃ W, W = w3 := ⟨_, rfl⟩
    rw [← hWe] at Bx q z3 hO hob
    rw [← hWe]
    clear hWe
    have hxW := hxf.below q
    refine wp_region_lnl (K := fun _ _ => True) (by kernel_rfl) (by kernel_rfl) [2, 3, 4, 8, 9] (by kernel_rfl) [lEq (.slice ad xs.length ko), lEq (.agg #[.int .i64 x.table, .slice p1 x.lo.length p2, .slice p3 x.hi.length p4, .bool x.isOpen]), lAny, lAny, lAny, lEq (.pointer (some ⟨w.heap.size, 0 + 0, none⟩)), lEq (.int .i64 x.table), lEq (.int .i64 m), lAny, lAny, lEq (.int .i64 0)] (AdJ w B W w.heap.size [.int .i64 x.table, .slice p1 x.lo.length p2, .slice p3 x.hi.length p4, .bool x.isOpen] x xs m) AdJ.below ⟨Below.refl _ _, Bx⟩
      ⟨?o0, ?o1, ?o2, ?o3, ?o4, ?o5, ?o6, ?o7, ?o8, ?o9, ?o10, trivial⟩ ?fin
    case o0 =>
      refine LnOp.side rfl (by kernel_rfl) (fun A va w' k hF hT hk hJ hb hu hp hd => ?_)
      have e1 : A.eval (.tmp 9) = .slice ad xs.length ko := hF 9 rfl
      exact BigFrame.wp_move _ rfl ⟨_, rfl, e1, Below.refl _ _⟩
    case o1 =>
      refine LnOp.side rfl (by kernel_rfl) (fun A va w' k hF hT hk hJ hb hu hp hd => ?_)
      have e1 : A.eval (.tmp 4) = .pointer (some ⟨w.heap.size, 0, none⟩) := hF 4 rfl
      obtain rfl : k = 0 := by have := hb 0 2 rfl (by kernel_rfl); omega
      obtain ⟨hJ0, hJB⟩ := hJ
      exact wp_load4 spS rfl e1 (hJB.cell (i := 0) rfl) (hJB.cell (i := 1) rfl) (hJB.cell (i := 2) rfl) (hJB.cell (i := 3) rfl) ⟨_, rfl, rfl, Below.refl _ _⟩
    case o2 =>
      refine LnOp.line 0 rfl rfl (fun A va w' hF hT hJ hu hd => ?_)
      have e1 : A.eval (.tmp 40) = .agg #[.int .i64 x.table, .slice p1 x.lo.length p2, .slice p3 x.hi.length p4, .bool x.isOpen] := (hT 40 1 (by simp) rfl).trans (hd ⟨1, .data⟩ (by simp) rfl rfl)
      obtain ⟨hJ0, hJB⟩ := hJ
      refine wp_callFn rfl eA (args := #[.agg #[.int .i64 x.table, .slice p1 x.lo.length p2, .slice p3 x.hi.length p4, .bool x.isOpen]]) (by simp only [List.map_toArray, List.map_cons, List.map_nil, e1]) ((sAlone_any w' (hxW.below hJ0) hx1 hx2).mono ?_)
      rintro e w2 ⟨v, rfl, hrd, hb2⟩
      exact ⟨_, rfl, _, rfl, ⟨hJ0.trans (hb2.mono hJ0.size), hJB.below hb2 hJB.lt, hrd.weak fun k hk => ⟨Nat.le_trans hJ0.size hk.1, hk.2⟩⟩, trivial⟩
    case o3 =>
      refine LnOp.line 1 rfl rfl (fun A va w' hF hT hJ hu hd => ?_)
      have x1 : A.eval (.tmp 41) = va 2 := hT 41 2 (by simp) rfl
      obtain ⟨hJ0, hJB, hrd⟩ := hJ
      obtain ⟨ka, kc, va2, vc, ev, h1, h2, h3⟩ := hrd
      have hbn := (Below.refl w'.heap.size w').alloc (Nat.le_refl _) (.cells [.int .i64 x.table, .slice ka x.lo.length kc, .slice va2 x.hi.length vc, .bool x.isOpen].toArray 25)
      have hR0 : Elt.sp.R (fun k => W.heap.size ≤ k ∧ k < w'.heap.size) w' x [.int .i64 x.table, .slice ka x.lo.length kc, .slice va2 x.hi.length vc, .bool x.isOpen] := ⟨_, _, rfl, h1, h2, h3⟩
      exact wp_buildOne spP rfl (x1.trans ev) rfl rfl (by omega) (by omega) ⟨_, rfl, ⟨hJ0.trans (hbn.mono hJ0.size), hJB.below hbn hJB.lt, _, _, rfl, hJ0.size, (by simp only [World.alloc, Array.getElem?_push_size]), Elt.sp.weak (Elt.below hR0 hbn) fun k hk => ⟨hk.1, Nat.lt_of_lt_of_le hk.2 hbn.size⟩⟩, trivial⟩
    case o4 =>
      refine LnOp.line 2 rfl rfl (fun A va w' hF hT hJ hu hd => ?_)
      have e1 : A.eval (.tmp 39) = .slice ad xs.length ko := (hT 39 0 (by simp) rfl).trans (hd ⟨0, .data⟩ (by simp) rfl rfl)
      have x2 : A.eval (.tmp 42) = va 3 := hT 42 3 (by simp) rfl
      obtain ⟨hJ0, hJB, g9, us9, eg, hg0, hgc, hgR⟩ := hJ
      refine wp_appendL (E := Elt.sp) (ys := [x]) spP rfl e1 (hO.below hJ0) (x2.trans eg) (fun j u hj => by rw [Addr.add_lit, World.cell?, hgc]; simpa using hj) (Flat.single hgR) (fun k hk => ⟨by omega, hk.2, fun e => by have := hob k e.symm; omega⟩) (by have := hJ0.size; omega) (fun ad7 k7 cap7 w2 h2 hg h3 => ?_) (by simp; omega)
      obtain rfl : k7 = (xs ++ [x]).length := h2.len
      exact ⟨_, rfl, ⟨(q.trans (hJ0.mono q.size)).grown hg (q.trans (hJ0.mono q.size)).size fun k hk => by have := hob k hk; omega, hJB.other hg fun e => by have := hob _ e; omega, Nat.le_trans hJ0.size hg.size, ad7, cap7, rfl, h2⟩, trivial⟩
    case o5 =>
      refine LnOp.side rfl (by kernel_rfl) (fun A va w' k hF hT hk hJ hb hu hp hd => ?_)
      have e1 : A.eval (.tmp 4) = .pointer (some ⟨w.heap.size, 0, none⟩) := hF 4 rfl
      exact wp_fieldN spS rfl (e1) (by omega) ⟨_, rfl, rfl, Below.refl _ _⟩
    case o6 =>
      refine LnOp.side rfl (by kernel_rfl) (fun A va w' k hF hT hk hJ hb hu hp hd => ?_)
      have e1 : A.eval (.tmp 44) = .pointer (some ⟨w.heap.size, 0 + 0, none⟩) := (hT 44 5 (by simp) rfl).trans (hd ⟨5, .data⟩ (by simp) rfl rfl)
      have hJB : BoxN w' w.heap.size 25 [.int .i64 x.table, .slice p1 x.lo.length p2, .slice p3 x.hi.length p4, .bool x.isOpen] := by
        have h5 := hb 3 8 rfl (by kernel_rfl)
        rcases k with _ | _ | _ | _ | k
        · exact hJ.2
        · exact hJ.2.1
        · exact hJ.2.1
        · exact hJ.2.1
        · omega
      exact wp_ld_int (k := .i64) rfl e1 (by kernel_rfl) (hJB.cell (i := 0) rfl) ⟨_, rfl, rfl, Below.refl _ _⟩
    case o7 =>
      refine LnOp.side rfl (by kernel_rfl) (fun A va w' k hF hT hk hJ hb hu hp hd => ?_)
      have e1 : A.eval (.tmp 2) = .int .i64 m := hF 2 rfl
      exact BigFrame.wp_move _ rfl ⟨_, rfl, e1, Below.refl _ _⟩
    case o8 =>
      refine LnOp.line 3 rfl rfl (fun A va w' hF hT hJ hu hd => ?_)
      have x1 : A.eval (.tmp 43) = va 4 := hT 43 4 (by simp) rfl
      have e2 : A.eval (.tmp 45) = .int .i64 x.table := (hT 45 6 (by simp) rfl).trans (hd ⟨6, .data⟩ (by simp) rfl rfl)
      have e3 : A.eval (.tmp 46) = .int .i64 m := (hT 46 7 (by simp) rfl).trans (hd ⟨7, .data⟩ (by simp) rfl rfl)
      obtain ⟨hJ0, hJB, hJW, ad7, c7, e7, hO7⟩ := hJ
      have hJs := hJ0.size
      have hbW7 : B ≤ w'.heap.size := by omega
      refine wp_callFn rfl eB (args := #[.slice ad7 (xs ++ [x]).length c7, .int .i64 x.table, .int .i64 m]) (by simp only [List.map_toArray, List.map_cons, List.map_nil, x1.trans e7, e2, e3]) ((bounded_any w' hO7 htx (by omega) (by simp; omega) hbW7 hbW7).mono ?_)
      rintro e w2 ⟨a', k', c', rfl, hO8, hg8⟩
      exact ⟨_, rfl, _, rfl, ⟨hJ0.grown hg8 hJs fun k hk => by have := (hO7.block_lt k hk).1; omega, a', k', c', rfl, hO8⟩, trivial⟩
    case o9 =>
      refine LnOp.line 4 rfl rfl (fun A va w' hF hT hJ hu hd => ?_)
      have x1 : A.eval (.tmp 47) = va 8 := hT 47 8 (by simp) rfl
      exact BigFrame.wp_assign _ rfl ⟨_, rfl, ⟨x1, hJ⟩, trivial⟩
    case o10 =>
      refine LnOp.side rfl (by kernel_rfl) (fun A va w' k hF hT hk hJ hb hu hp hd => ?_)
      exact BigFrame.wp_assign _ rfl ⟨_, rfl, rfl, Below.refl _ _⟩
    case fin =>
      intro vs1 W9 hJ hG
      obtain ⟨e9, q9, a9, k9, c9, e8, hO9⟩ := hJ
      have g10 : vs1 10 = .int .i64 0 := hG 10 (by decide) rfl
      rw [e8] at e9
      clear hG
      simp only [putAll, e9, g10]
      clear e9 e8 g10
      go_simp
      go_wp2_with fail
      go_ret2
      rw [H.out]
      exact ⟨_, _, _, rfl, hO9.to (by omega) (by omega), q9⟩
end Go.Proofs.Ytmcleffpjfeegaa
