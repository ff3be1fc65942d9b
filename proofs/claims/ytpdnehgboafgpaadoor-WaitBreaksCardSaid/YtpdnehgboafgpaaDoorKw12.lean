/-
  TEXTS OF ONE PROOF, merged: WaH, WaitTellsW, WaJ, WaitLessW, WaitMoreW, WaitBreaksW.
-/
import Derived.Test.YtpdnehgboafgpaaDoorKw11
namespace Go.Proofs.YtpdnehgboafgpaaDoor
open Go.RowKit Go.Shelf
def p0 : Lk := ⟨0, false, pointS 0 [], 5⟩
def p1 : Lk := ⟨1, false, pointS 0 [], 3⟩
theorem ask12_1 : askL [] [] p0 = ([p0], [], 0) := by decide
theorem ask12_2 : askL [p0] [] p1 = ([p0], [p1], 110) := by decide
def sA (k : Nat) : Int := match k with | 0 => 5 | 1 => 7 | 2 => 9 | _ => 0
theorem stk12 : stuckL [(0, 1), (1, 0), (2, 0)] = [0, 1] := by decide
theorem stk12e : stuckL [(0, 1)] = [] := by decide
theorem stk12n : stuckL [(7, 7), (0, 7)] = [] := by decide
theorem vic12 {e : Ending} (h : VicEnd [(0, 1), (1, 0), (2, 0)] sA e) : e = .returned (.tuple #[.int .i64 1, .bool true]) := by
  unfold VicEnd at h
  rw [stk12] at h
  rcases h with ⟨h, _⟩ | ⟨v, h, rfl⟩
  · cases h
  · obtain rfl : v = 1 := by
      obtain ⟨h1, h2⟩ := h
      have h3 := h2 1 (by simp)
      rcases List.mem_cons.1 h1 with rfl | h1
      · exact absurd h3 (by decide)
      · simpa using h1
    rfl
theorem vic12n {s : Nat → Int} {e : Ending} (h : VicEnd [(0, 1)] s e) : e = .returned (.tuple #[.int .i64 0, .bool false]) := by
  unfold VicEnd at h
  rw [stk12e] at h
  rcases h with ⟨_, rfl⟩ | ⟨v, h, rfl⟩
  · rfl
  · cases h.1
theorem edg12 : edgesL [p0] [p1] = [(1, 0)] := by
  have hb : ∀ k : Int, bloL [p0] [p1] k = if (1 : Int) = k then [0] else [] := by
    intro k
    have e : blkO p1 ([p0] ++ []) = [0] := by decide
    unfold bloL
    rw [if_pos (show okLk [p0] [p1] from by decide)]
    show (if (1 : Int) = k then riseL (blkO p1 ([p0] ++ [])) else []) = _
    rw [e, show riseL [0] = [0] from (rise_mark (by decide)).trans (by decide)]
  unfold edgesL edgesN
  rw [show List.range 4 = [0, 1, 2, 3] from rfl]
  simp only [hb]
  decide
section
variable {o : Oper} {a : Act} {K : Act → World → Prop} {Q : Exit → Act → World → Prop} {w : World} {ops : Array Oper} {rest : List Oper} {S : Nat → Prop}
theorem run_eds3 (w : World) (a b c d e f : Int) : (Instr.buildSlice 39 3 #[(0, .agg #[.int .i64 a, .int .i64 b]), (1, .agg #[.int .i64 c, .int .i64 d]), (2, .agg #[.int .i64 e, .int .i64 f])]).run Tryd.prog w = .ok (.slice (some ⟨w.heap.size, 0, none⟩) 3 3) (w.alloc (.cells #[.int .i64 a, .int .i64 b, .int .i64 c, .int .i64 d, .int .i64 e, .int .i64 f] 52)) := by
  go_simp
theorem run_eds2 (w : World) (a b c d : Int) : (Instr.buildSlice 39 2 #[(0, .agg #[.int .i64 a, .int .i64 b]), (1, .agg #[.int .i64 c, .int .i64 d])]).run Tryd.prog w = .ok (.slice (some ⟨w.heap.size, 0, none⟩) 2 2) (w.alloc (.cells #[.int .i64 a, .int .i64 b, .int .i64 c, .int .i64 d] 52)) := by
  go_simp
theorem wpList_eds3 {x y z : Operand} {m n r s t u : Int} (ho : o.op = .buildSlice 39 3 #[(0, x), (1, y), (2, z)]) (hgd : Region.wanted o (yielded ops a.tmps) = true) (hx : a.eval x = .agg #[.int .i64 m, .int .i64 n]) (hy : a.eval y = .agg #[.int .i64 r, .int .i64 s]) (hz : a.eval z = .agg #[.int .i64 t, .int .i64 u])
    (h : ∀ w', Below w.heap.size w w' → w'.heap[w.heap.size]? = some (.cells #[.int .i64 m, .int .i64 n, .int .i64 r, .int .i64 s, .int .i64 t, .int .i64 u] 52 (0, 0)) → wpList Tryd.prog ops Q rest (a.put o.dst (.slice (some ⟨w.heap.size, 0, none⟩) 3 3)) w') : wpList Tryd.prog ops Q (o :: rest) a w := by
  refine BigFrame.wpList_want hgd fun _ hK => ?_
  unfold Oper.wp execOp
  simp only [ho, hx, hy, hz, Sem.run_bind, Sem.run_pure, Result.andThen_ok, List.map_toArray, List.map_cons, List.map_nil, run_eds3]
  exact hK _ _ (h _ ((Below.refl _ _).alloc (Nat.le_refl _) _) (by simp only [World.alloc, Array.getElem?_push_size]))
theorem wpList_eds2 {x y : Operand} {m n r s : Int} (ho : o.op = .buildSlice 39 2 #[(0, x), (1, y)]) (hgd : Region.wanted o (yielded ops a.tmps) = true) (hx : a.eval x = .agg #[.int .i64 m, .int .i64 n]) (hy : a.eval y = .agg #[.int .i64 r, .int .i64 s])
    (h : ∀ w', Below w.heap.size w w' → w'.heap[w.heap.size]? = some (.cells #[.int .i64 m, .int .i64 n, .int .i64 r, .int .i64 s] 52 (0, 0)) → wpList Tryd.prog ops Q rest (a.put o.dst (.slice (some ⟨w.heap.size, 0, none⟩) 2 2)) w') : wpList Tryd.prog ops Q (o :: rest) a w := by
  refine BigFrame.wpList_want hgd fun _ hK => ?_
  unfold Oper.wp execOp
  simp only [ho, hx, hy, Sem.run_bind, Sem.run_pure, Result.andThen_ok, List.map_toArray, List.map_cons, List.map_nil, run_eds2]
  exact hK _ _ (h _ ((Below.refl _ _).alloc (Nat.le_refl _) _) (by simp only [World.alloc, Array.getElem?_push_size]))
theorem wpList_ints2 {x y : Operand} {m n : Int} (ho : o.op = .buildSlice 34 2 #[(0, x), (1, y)]) (hgd : Region.wanted o (yielded ops a.tmps) = true) (hx : a.eval x = .int .i64 m) (hy : a.eval y = .int .i64 n)
    (h : ∀ w', Below w.heap.size w w' → w'.heap[w.heap.size]? = some (.cells #[.int .i64 m, .int .i64 n] 3 (0, 0)) → wpList Tryd.prog ops Q rest (a.put o.dst (.slice (some ⟨w.heap.size, 0, none⟩) 2 2)) w') : wpList Tryd.prog ops Q (o :: rest) a w :=
  BigFrame.wpList_want hgd fun _ hK => wp_ints2 ho hx hy fun w' h1 h2 => hK _ _ (h w' h1 h2)
theorem rd_eds {l : List Ed} {vs : List Value} {b : Nat} {t : TypeId} (hrow : w.heap[b]? = some (.cells vs.toArray t (0, 0))) (hS : S b) (hl : l.length ≤ 1000) (hf : Flat Elt.ed S w l vs) : RdL Elt.ed S w (.slice (some ⟨b, 0, none⟩) l.length l.length) l :=
  ⟨_, l.length, rfl, Nat.le_refl _, by unfold maxLen; omega, .inr ⟨b, 0, rfl, hS, fun r h => by
    obtain ⟨us, h1, h2⟩ := hf.at r h
    exact ⟨us, h1, fun j u hj => by
      have := h2 j u hj
      simp only [World.cell?, hrow, Nat.zero_add]
      simpa using this⟩⟩⟩
theorem fl3 (S : Nat → Prop) (w : World) : Flat Elt.ed S w [(0, 1), (1, 0), (2, 0)] [.int .i64 0, .int .i64 1, .int .i64 1, .int .i64 0, .int .i64 2, .int .i64 0] :=
  ⟨[.int .i64 0, .int .i64 1], _, rfl, ⟨rfl, by unfold W64; decide, by unfold W64; decide⟩, [.int .i64 1, .int .i64 0], _, rfl, ⟨rfl, by unfold W64; decide, by unfold W64; decide⟩, [.int .i64 2, .int .i64 0], [], rfl, ⟨rfl, by unfold W64; decide, by unfold W64; decide⟩, rfl⟩
theorem fl2 (S : Nat → Prop) (w : World) : Flat Elt.ed S w [(7, 7), (0, 7)] [.int .i64 7, .int .i64 7, .int .i64 0, .int .i64 7] :=
  ⟨[.int .i64 7, .int .i64 7], _, rfl, ⟨rfl, by unfold W64; decide, by unfold W64; decide⟩, [.int .i64 0, .int .i64 7], [], rfl, ⟨rfl, by unfold W64; decide, by unfold W64; decide⟩, rfl⟩
theorem wp_bLk {x : Operand} {ow m : Int} {c0 c1 c2 c3 : Value} (ho : o.op = .build 29 #[(0, .const (.int .i64 ow)), (2, x), (3, .const (.int .i64 m))]) (hx : a.eval x = .agg #[c0, c1, c2, c3]) (h : K (a.put o.dst (.agg #[.int .i64 ow, .bool false, c0, c1, c2, c3, .int .i64 m])) w) : o.wp Tryd.prog a w K Q := by
  refine wp_run' ?_ h
  simp only [execOp, ho, hx, List.map_toArray, List.map_cons, List.map_nil]
  go_simp
end
def SpV12 (x : Sp) (S : Nat → Prop) (w : World) (v : Value) : Prop := RdSp S w v x
theorem lsStays12 (r : List Lk × List Lk × Nat) (p : Sp) (x : Lk) : Stays (LsR r) LsB (SpV12 p) (LkV x) where
  toRdP := lsR r
  bx := fun ⟨x, y, e, h⟩ hb => ⟨x, y, e, h.below hb h.lt⟩
  s1 := fun ⟨a, c, a2, c2, e, h1, h2, h3⟩ hk => ⟨a, c, a2, c2, e, h1.keep hk, h2.keep hk, h3⟩
  w1 := fun h hk => RdSp.weak h hk
  s2 := fun h hk => RdLk.keep h hk
  w2 := fun h hk => RdLk.weak h hk
theorem CbS.lk2 {r : List Lk × List Lk × Nat} {Z : Obj} {Bx : World → Nat → Value → Prop} {W w : World} {c m' x z s y : Option Value} {p : Sp} {u v0 v1 v2 v3 : Value} {o m : Int} (h : CbS false #[] 5 (LsR r) Z Bx (SpV12 p) (LkV ⟨o, false, p, m⟩) W none (some u) none c m' x y z s w) (e : u = .agg #[v0, v1, v2, v3]) (ho : W64 o) (hm : W64 m) :
    CbS false #[] 5 (LsR r) Z Bx (SpV12 p) (LkV ⟨o, false, p, m⟩) W none (some u) (some (.agg #[.int .i64 o, .bool false, v0, v1, v2, v3, .int .i64 m])) c m' x y z s w :=
  { h with
    k2 := fun u' eu => by
      injection eu with eu
      subst eu
      obtain ⟨a, b, a2, b2, e3, h1, h2, h3⟩ := h.k1 _ rfl
      rw [e] at e3
      injection e3 with e3
      injection e3 with e3
      injection e3 with f0 e3
      injection e3 with f1 e3
      injection e3 with f2 e3
      injection e3 with f3 _
      subst f0 f1 f2 f3
      exact ⟨a, b, a2, b2, rfl, h1.weak fun k hk => ⟨hk, fun _ _ _ e => by cases e⟩, h2.weak fun k hk => ⟨hk, fun _ _ _ e => by cases e⟩, ho, h3, hm⟩ }
set_option maxRecDepth 100000 in
set_option maxHeartbeats 32000000 in
theorem awake12_any (w : World) (hT : TabAt w) : Calls Tryd.prog 20 #[] w fun e w' => e = .returned (.bool true) ∧ Below w.heap.size w w' := by
  have ePt : ∀ args w, (callFunc 49 args).run Tryd.prog w = .ok (.enter 49 args) w := enters_of Tryd.func49 (by kernel_rfl) rfl
  have eAsk : ∀ args w, (callFunc 30 args).run Tryd.prog w = .ok (.enter 30 args) w := enters_of Tryd.func30 (by kernel_rfl) rfl
  go_enter Tryd.func20, Tryd.ntmps20
  try dsimp only [List.append]
  have q := Below.refl w.heap.size w
  have tb := hT
  go_upto_region 2 with (first | (refine wpList_eds3 rfl rfl rfl rfl rfl ?_; intro w1 hb1 r1) | fail)
  replace tb := tb.below hb1
  replace q := q.trans (hb1.mono q.size)
  have rE : RdL Elt.ed (fun _ => True) w1 (.slice (some ⟨w.heap.size, 0, none⟩) 3 3) [(0, 1), (1, 0), (2, 0)] := rd_eds r1 trivial (by decide) (fl3 _ _)
  clear r1 hb1
  obtain ⟨bE, ebE⟩ : ∃ b, b = w.heap.size := ⟨_, rfl⟩
  rw [← ebE] at rE
  rw [← ebE]
  replace ebE := Lib.hid ebE
  have hcl : Calls Tryd.prog 22 #[.slice (some ⟨bE, 0, none⟩) 3 3, .agg #[.int .i64 5, .int .i64 7, .int .i64 9, .int .i64 0]] w1 fun e w' => VicEnd [(0, 1), (1, 0), (2, 0)] sA e ∧ Below w1.heap.size w1 w' := victim_any w1 rE sA
  go_wp2_with fail
  refine hcl.mono ?_
  rintro e w2 ⟨hv, hb⟩
  obtain rfl := vic12 hv
  clear hcl hv
  replace rE := rE.below hb
  replace tb := tb.below hb
  replace q := q.trans (hb.mono q.size)
  clear hb
  go_upto_region 3 with (fail)
  go_wp2_with (first | (refine wpList_buildOne edP rfl rfl rfl (us := [.int .i64 0, .int .i64 1]) rfl rfl (by decide) (by decide) ?_; intro w3 hb3 hrow) | fail)
  replace rE := rE.below hb3
  replace tb := tb.below hb3
  replace q := q.trans (hb3.mono q.size)
  have r1 : RdL Elt.ed (fun _ => True) w3 (.slice (some ⟨w2.heap.size, 0, none⟩) 1 1) [(0, 1)] := made11 ⟨rfl, by unfold W64; decide, by unfold W64; decide⟩ hrow trivial
  clear hrow hb3
  have hcl : Calls Tryd.prog 22 #[.slice (some ⟨w2.heap.size, 0, none⟩) 1 1, .agg #[.int .i64 0, .int .i64 0, .int .i64 0, .int .i64 0]] w3 fun e w' => VicEnd [(0, 1)] (fun _ => 0) e ∧ Below w3.heap.size w3 w' := victim_any w3 r1 (fun _ => 0)
  refine hcl.mono ?_
  rintro e w4 ⟨hv, hb⟩
  obtain rfl := vic12n hv
  clear hcl hv r1
  replace rE := rE.below hb
  replace tb := tb.below hb
  replace q := q.trans (hb.mono q.size)
  clear hb
  go_upto_region 4 with (fail)
  have hcl := sPoint_any w4 (S := fun _ => True) (A := none) (n := 0) (C := 0) (k := []) (t := 0) (RdS.nil _ _) (by unfold W64; decide) (by simp)
  go_wp2_with fail
  refine hcl.mono ?_
  rintro e w5 ⟨v, rfl, ⟨s1, s2, s3, s4, rfl, rl, rh, rt⟩, hb⟩
  clear hcl
  replace rE := rE.below hb
  replace tb := tb.below hb
  replace q := q.trans (hb.mono q.size)
  clear hb
  have hx0 : RdLk (fun _ => True) w5 (.agg #[.int .i64 0, .bool false, .int .i64 (pointS 0 []).table, .slice s1 (pointS 0 []).lo.length s2, .slice s3 (pointS 0 []).hi.length s4, .bool (pointS 0 []).isOpen, .int .i64 5]) p0 := ⟨s1, s2, s3, s4, rfl, rl.weak fun _ _ => trivial, rh.weak fun _ _ => trivial, by unfold Lk64 W64; decide⟩
  have hcl := lAsk_any w5 tb (H := []) (Q := []) (x := p0) (S := fun _ => True) ⟨none, 0, none, 0, rfl, RdL.nil _ _ _, RdL.nil _ _ _⟩ (by unfold smK; decide) (by unfold smK; decide) (by decide) (by decide) hx0 (by decide) (by decide)
  rw [ask12_1] at hcl
  go_wp2_with fail
  refine hcl.mono ?_
  rintro e w6 ⟨aA, cA, mA, nA, rfl, ⟨_, _, _, _, er, rhA, rqA⟩, hb⟩
  injection er with er
  injection er with er
  injection er with er1 er
  injection er with er2 _
  rw [← er1] at rhA
  rw [← er2] at rqA
  clear hcl hx0 rl rh rt er1 er2
  replace rE := rE.below hb
  replace tb := tb.below hb
  replace q := q.trans (hb.mono q.size)
  clear hb
  replace rhA : RdL Elt.lk (fun _ => True) _ (.slice aA 1 cA) [p0] := rhA.weak fun _ _ => trivial
  replace rqA : RdL Elt.lk (fun _ => True) _ (.slice mA 0 nA) [] := rqA.weak fun _ _ => trivial
  go_upto_region 5 with (first | (refine wpList_boxNew (vs := [.slice none 0 0, .slice none 0 0]) (by kernel_rfl) rfl rfl ?_; intro wa hba hBa) | (refine wpList_boxStore (us := [.slice aA 1 cA, .slice mA 0 nA]) (by kernel_rfl) rfl rfl rfl rfl rfl rfl hBa rfl ?_; intro w7 hgw xA) | fail)
  try go_simp
  have hbw := hba.grown hgw hba.size fun k hk => by injection hk with hk; omega
  replace rE := rE.below hbw
  replace rhA := rhA.below hbw
  replace rqA := rqA.below hbw
  replace tb := tb.below hbw
  replace q := q.trans (hbw.mono q.size)
  clear hbw hgw hba hBa
  obtain ⟨bA, hbA⟩ : ∃ bA, bA = w6.heap.size := ⟨_, rfl⟩
  rw [← hbA] at xA
  rw [← hbA]
  clear hbA
  refine wp_region_setl (K := fun _ _ => True) (by kernel_rfl) (by kernel_rfl) [1, 2, 3, 4, 5, 6, 7, 8] (by kernel_rfl) [lEq (.agg #[.slice aA 1 cA, .slice mA 0 nA]), lAny, lAny, lAny, lAny, lAny, lAny, lAny, lAny, lEq (.int .i64 ((([p0], [p1], 110)).2.2 : Nat))]
    (CbK #[] 5 (LsR ([p0], [p1], 110)) zLs LsB (SpV12 (pointS 0 [])) (LkV p1) _) (CbK.more (lsStays12 ([p0], [p1], 110) (pointS 0 []) p1)) (CbS.start _)
    ⟨?o0, ?o1, ?o2, ?o3, ?o4, ?o5, ?o6, ?o7, ?o8, ?o9, trivial⟩ ?fin
  case o0 =>
    refine StOp.free rfl (by kernel_rfl) (fun A va D w' hF hT hN hE hd hu hg => ?_)
    have e1 : A.eval (.tmp 6) = .pointer (some ⟨bA, 0, none⟩) := hF 6 rfl
    have hBE := CbK.below hE
    exact wp_load2 lsS rfl e1 ((xA.below hBE xA.lt).cell (i := 0) rfl) ((xA.below hBE xA.lt).cell (i := 1) rfl) ⟨_, rfl, rfl, Below.refl _ _⟩
  case o1 =>
    refine StOp.set rfl (by kernel_rfl) (fun A va D w' hF hT hN hE hd hu hg => ?_)
    have hE2 := hE
    simp only [told, List.map_cons, List.map_nil, hN, Bool.false_eq_true, if_false] at hE2
    refine wp_callFn rfl ePt (args := #[.int .i64 0, .slice none 0 0]) (by simp only [List.map_toArray, List.map_cons, List.map_nil]; rfl) ((sPoint_any w' (S := fun _ => True) (A := none) (n := 0) (C := 0) (k := []) (t := 0) (RdS.nil _ _) (by unfold W64; decide) (by simp)).mono ?_)
    rintro e w2 ⟨v, rfl, hv, hb2⟩
    have h5 := CbS.key (lsStays12 ([p0], [p1], 110) (pointS 0 []) p1) hE2 rfl hb2 (u := v) hv
    exact ⟨_, rfl, _, rfl, by simpa [CbK, told, don, upd] using h5, trivial⟩
  case o2 =>
    refine StOp.set rfl (by kernel_rfl) (fun A va D w' hF hT hN hE hd hu hg => ?_)
    have x1 : A.eval (.tmp 36) = va 1 := hT 36 1 (by simp) rfl
    have hE2 := hE
    have d1 : D 1 = true := hd ⟨1, .data⟩ (by simp) rfl
    simp only [told, List.map_cons, List.map_nil, hN, d1, Bool.false_eq_true, if_false, if_true] at hE2
    obtain ⟨t1, t2, t3, t4, et, _⟩ := id (hE2.k1 _ rfl)
    refine wp_bLk rfl (x1.trans et) ⟨_, rfl, ?_, trivial⟩
    have h5 := CbS.lk2 hE2 et (o := 1) (m := 3) (by unfold W64; decide) (by unfold W64; decide)
    rw [show (⟨1, false, pointS 0 [], 3⟩ : Lk) = p1 from rfl] at h5
    simpa [CbK, told, don, upd, d1] using h5
  case o3 =>
    refine StOp.set rfl (by kernel_rfl) (fun A va D w' hF hT hN hE hd hu hg => ?_)
    have e1 : A.eval (.tmp 35) = .agg #[.slice aA 1 cA, .slice mA 0 nA] := (hT 35 0 (by simp) rfl).trans (hg ⟨0, .data⟩ (by simp) rfl rfl)
    have x2 : A.eval (.tmp 37) = va 2 := hT 37 2 (by simp) rfl
    have hE2 := hE
    have d2 : D 2 = true := hd ⟨2, .data⟩ (by simp) rfl
    simp only [told, List.map_cons, List.map_nil, hN, d2, Bool.false_eq_true, if_false, if_true] at hE2
    have hBE := hE2.be
    have hcl := lAsk_any w' (tb.below hBE) (H := [p0]) (Q := []) (x := p1) ⟨aA, cA, mA, nA, rfl, rhA.below hBE, rqA.below hBE⟩ (by unfold smK; decide) (by unfold smK; decide) (by decide) (by decide) (hE2.k2 _ rfl) (by decide) (by decide)
    rw [ask12_2] at hcl
    refine wp_callFn rfl eAsk (args := #[.agg #[.slice aA 1 cA, .slice mA 0 nA], va 2]) (by simp only [List.map_toArray, List.map_cons, List.map_nil, e1, x2]) (hcl.mono ?_)
    rintro e w2 ⟨a, c, a2, c2, rfl, hrd, hb2⟩
    have h5 := CbS.call (lsStays12 ([p0], [p1], 110) (pointS 0 []) p1) hE2 (by simp) hb2 (v := .agg #[.slice a _ c, .slice a2 _ c2]) (e := .int .i64 _) ⟨rfl, hrd⟩
    exact ⟨_, rfl, _, rfl, by simpa [CbK, told, don, upd, d2] using h5, trivial⟩
  case o4 =>
    refine StOp.set rfl (by kernel_rfl) (fun A va D w' hF hT hN hE hd hu hg => ?_)
    have x1 : A.eval (.tmp 38) = va 3 := hT 38 3 (by simp) rfl
    have hE2 := hE
    have d3 : D 3 = true := hd ⟨3, .data⟩ (by simp) rfl
    simp only [told, List.map_cons, List.map_nil, hN, d3, Bool.false_eq_true, if_false, if_true] at hE2
    have h5 := CbS.move hE2
    exact BigFrame.wp_move _ rfl ⟨_, rfl, by rw [x1]; simpa [CbK, told, don, upd, d3] using h5, trivial⟩
  case o5 =>
    refine StOp.set rfl (by kernel_rfl) (fun A va D w' hF hT hN hE hd hu hg => ?_)
    have x1 : A.eval (.tmp 34) = va 4 := hT 34 4 (by simp) rfl
    have hE2 := hE
    have d4 : D 4 = true := hd ⟨4, .data⟩ (by simp) rfl
    simp only [told, List.map_cons, List.map_nil, hN, d4, Bool.false_eq_true, if_false, if_true] at hE2
    obtain ⟨v, e, em⟩ := CbS.tup hE2
    rw [em] at hE2
    have h5 := CbS.ex0 hE2
    exact wp_ex rfl (x1.trans em) rfl ⟨_, rfl, by simpa [CbK, told, don, upd, d4, em] using h5, trivial⟩
  case o6 =>
    refine StOp.set rfl (by kernel_rfl) (fun A va D w' hF hT hN hE hd hu hg => ?_)
    have x1 : A.eval (.tmp 34) = va 4 := hT 34 4 (by simp) rfl
    have hE2 := hE
    have d4 : D 4 = true := hd ⟨4, .data⟩ (by simp) rfl
    simp only [told, List.map_cons, List.map_nil, hN, d4, Bool.false_eq_true, if_false, if_true] at hE2
    obtain ⟨v, e, em⟩ := CbS.tup hE2
    rw [em] at hE2
    have h5 := CbS.ex1 hE2
    exact wp_ex rfl (x1.trans em) rfl ⟨_, rfl, by simpa [CbK, told, don, upd, d4, em] using h5, trivial⟩
  case o7 =>
    refine StOp.set rfl (by kernel_rfl) (fun A va D w' hF hT hN hE hd hu hg => ?_)
    have hE2 := hE
    simp only [told, List.map_cons, List.map_nil, hN, Bool.false_eq_true, if_false] at hE2
    refine wp_boxNew (vs := [.slice none 0 0, .slice none 0 0]) (by kernel_rfl) rfl (fun w2 hb2 hz => ⟨_, rfl, ?_, trivial⟩)
    have h5 := CbS.alloc (lsStays12 ([p0], [p1], 110) (pointS 0 []) p1) hE2 hb2 hz
    simpa [CbK, told, don, upd] using h5
  case o8 =>
    refine StOp.set rfl (by kernel_rfl) (fun A va D w' hF hT hN hE hd hu hg => ?_)
    have x1 : A.eval (.tmp 8) = va 7 := hT 8 7 (by simp) rfl
    have x2 : A.eval (.tmp 39) = va 5 := hT 39 5 (by simp) rfl
    have hE2 := hE
    have d7 : D 7 = true := hd ⟨7, .data⟩ (by simp) rfl
    have d5 : D 5 = true := hd ⟨5, .data⟩ (by simp) rfl
    simp only [told, List.map_cons, List.map_nil, hN, d7, d5, Bool.false_eq_true, if_false, if_true] at hE2
    obtain ⟨b9, eb, hb0⟩ := CbS.box hE2
    obtain ⟨e, hm⟩ := hE2.mx _ rfl
    obtain ⟨v, e2, ec, _, hrd⟩ := hE2.rr _ (hE2.mv _ hm)
    obtain ⟨A1, B1, A2, B2, ev, _⟩ := id hrd
    injection ec with ec
    injection ec with ec
    injection ec with ec _
    rw [← ec] at ev
    refine wp_boxStore (vs := [.slice none 0 0, .slice none 0 0]) (us := [.slice A1 _ B1, .slice A2 _ B2]) (by kernel_rfl) rfl (x1.trans eb) (x2.trans ev) rfl hb0 rfl (fun w2 hg2 ht2 => ⟨_, rfl, ?_, trivial⟩)
    rw [eb] at hE2
    have h5 := CbS.sto (u := undef) (lsStays12 ([p0], [p1], 110) (pointS 0 []) p1) hE2 hg2 ⟨_, _, ev, ht2⟩
    simpa [CbK, told, don, upd, d7, d5, eb] using h5
  case o9 =>
    refine StOp.free rfl (by kernel_rfl) (fun A va D w' hF hT hN hE hd hu hg => ?_)
    have x1 : A.eval (.tmp 40) = va 6 := hT 40 6 (by simp) rfl
    have hE2 := hE
    have d6 : D 6 = true := hd ⟨6, .data⟩ (by simp) rfl
    simp only [told, List.map_cons, List.map_nil, d6, if_true] at hE2
    have ee := CbS.errL hE2
    exact BigFrame.wp_assign _ rfl ⟨_, rfl, x1.trans ee, Below.refl _ _⟩
  case fin =>
  intro vs1 W1 hE hG
  obtain ⟨bB, aB, cB, mB, nB, ez, em, ec, ev, ee, xB, rhB, rqB, hb⟩ := CbS.locks hE (by simp)
  have g0 : vs1 0 = .agg #[.slice aA 1 cA, .slice mA 0 nA] := hG 0 (by decide) rfl
  have g9 : vs1 9 = .int .i64 ((([p0], [p1], 110)).2.2 : Nat) := hG 9 (by decide) rfl
  obtain ⟨k1, k2, ek1, ek2⟩ : ∃ k1 k2, vs1 1 = k1 ∧ vs1 2 = k2 := ⟨_, _, rfl, rfl⟩
  simp only [putAll, g0, g9, ec, em, ev, ee, ez, ek1, ek2]
  clear hE hG g0 g9 ec em ev ee ez ek1 ek2
  replace rE := rE.below hb
  replace rhA := rhA.below hb
  replace rqA := rqA.below hb
  replace xA := xA.below hb xA.lt
  replace tb := tb.below hb
  replace q := q.trans (hb.mono q.size)
  clear hb
  replace xB : BoxN _ _ _ [.slice aB 1 cB, .slice mB 1 nB] := xB
  replace rhB : RdL Elt.lk (fun _ => True) _ (.slice aB 1 cB) [p0] := rhB.weak fun _ _ => trivial
  replace rqB : RdL Elt.lk (fun _ => True) _ (.slice mB 1 nB) [p1] := rqB.weak fun _ _ => trivial
  obtain ⟨w8, hwe⟩ : ∃ W, W = W1 := ⟨_, rfl⟩
  rw [← hwe] at rE
  rw [← hwe] at rhA
  rw [← hwe] at rqA
  rw [← hwe] at xA
  rw [← hwe] at xB
  rw [← hwe] at rhB
  rw [← hwe] at rqB
  rw [← hwe] at tb
  rw [← hwe] at q
  rw [← hwe]
  clear hwe
  go_simp
  have hcl := stuck_any _ rE
  go_wp2_with fail
  refine hcl.mono ?_
  rintro e w9 ⟨aS, cS, rfl, hS, hb⟩
  rw [stk12] at hS ⊢
  have rS : RdL Elt.int (fun _ => True) w9 (.slice aS 2 cS) [0, 1] := hS.rdS fun _ _ _ => trivial
  clear hcl hS
  replace rE := rE.below hb
  replace rhA := rhA.below hb
  replace rqA := rqA.below hb
  replace xA := xA.below hb xA.lt
  replace xB := xB.below hb xB.lt
  replace rhB := rhB.below hb
  replace rqB := rqB.below hb
  replace tb := tb.below hb
  replace q := q.trans (hb.mono q.size)
  clear hb
  go_wp2_with (first | (refine wpList_ints2 rfl rfl rfl rfl ?_; intro w10 hb10 hrow) | fail)
  replace rE := rE.below hb10
  replace rhA := rhA.below hb10
  replace rqA := rqA.below hb10
  replace xA := xA.below hb10 xA.lt
  replace xB := xB.below hb10 xB.lt
  replace rhB := rhB.below hb10
  replace rqB := rqB.below hb10
  replace rS := rS.below hb10
  replace tb := tb.below hb10
  replace q := q.trans (hb10.mono q.size)
  have r2 := rd_ints2 (S := fun _ => True) hrow trivial (by unfold W64; decide) (by unfold W64; decide)
  clear hrow hb10
  have hcl := numbers_any _ rS r2
  rw [decide_eq_true rfl] at hcl
  refine hcl.mono ?_
  rintro e w11 ⟨rfl, hb⟩
  clear hcl r2
  replace rE := rE.below hb
  replace rhA := rhA.below hb
  replace rqA := rqA.below hb
  replace xA := xA.below hb xA.lt
  replace xB := xB.below hb xB.lt
  replace rhB := rhB.below hb
  replace rqB := rqB.below hb
  replace rS := rS.below hb
  replace tb := tb.below hb
  replace q := q.trans (hb.mono q.size)
  clear hb
  have x0 := xB.cell (i := 0) rfl
  have x1 := xB.cell (i := 1) rfl
  have hcl := edges_any _ tb (H := [p0]) (Q := [p1]) (S := fun _ => True) ⟨aB, cB, mB, nB, rfl, rhB, rqB⟩ (by decide) (by decide)
  go_wp2_with fail
  refine hcl.mono ?_
  rintro e w12 ⟨aG, cG, rfl, hG, hb⟩
  rw [edg12] at hG ⊢
  have rG : RdL Elt.ed (fun _ => True) w12 (.slice aG 1 cG) [(1, 0)] := hG.rdS fun _ _ _ => trivial
  clear hcl hG x0 x1
  replace rE := rE.below hb
  replace rhA := rhA.below hb
  replace rqA := rqA.below hb
  replace xA := xA.below hb xA.lt
  replace xB := xB.below hb xB.lt
  replace rhB := rhB.below hb
  replace rqB := rqB.below hb
  replace rS := rS.below hb
  replace tb := tb.below hb
  replace q := q.trans (hb.mono q.size)
  clear hb
  go_wp2_with (first | (refine wpList_buildOne edP rfl rfl rfl (us := [.int .i64 1, .int .i64 0]) rfl rfl (by decide) (by decide) ?_; intro w13 hb13 hrow) | fail)
  replace rE := rE.below hb13
  replace rhA := rhA.below hb13
  replace rqA := rqA.below hb13
  replace xA := xA.below hb13 xA.lt
  replace xB := xB.below hb13 xB.lt
  replace rhB := rhB.below hb13
  replace rqB := rqB.below hb13
  replace rS := rS.below hb13
  replace rG := rG.below hb13
  replace tb := tb.below hb13
  replace q := q.trans (hb13.mono q.size)
  have r1 : RdL Elt.ed (fun _ => True) w13 (.slice (some ⟨w12.heap.size, 0, none⟩) 1 1) [(1, 0)] := made11 ⟨rfl, by unfold W64; decide, by unfold W64; decide⟩ hrow trivial
  clear hrow hb13
  have hcl := edSame_any _ rG r1
  rw [decide_eq_true rfl] at hcl
  refine hcl.mono ?_
  rintro e w14 ⟨rfl, hb⟩
  clear hcl r1
  replace rE := rE.below hb
  replace rhA := rhA.below hb
  replace rqA := rqA.below hb
  replace xA := xA.below hb xA.lt
  replace xB := xB.below hb xB.lt
  replace rhB := rhB.below hb
  replace rqB := rqB.below hb
  replace rS := rS.below hb
  replace rG := rG.below hb
  replace tb := tb.below hb
  replace q := q.trans (hb.mono q.size)
  clear hb
  go_wp2_with (first | (refine wpList_eds2 rfl rfl rfl rfl ?_; intro w15 hb15 hrow) | fail)
  replace rE := rE.below hb15
  replace rhA := rhA.below hb15
  replace rqA := rqA.below hb15
  replace xA := xA.below hb15 xA.lt
  replace xB := xB.below hb15 xB.lt
  replace rhB := rhB.below hb15
  replace rqB := rqB.below hb15
  replace rS := rS.below hb15
  replace rG := rG.below hb15
  replace tb := tb.below hb15
  replace q := q.trans (hb15.mono q.size)
  have r2 : RdL Elt.ed (fun _ => True) w15 (.slice (some ⟨w14.heap.size, 0, none⟩) 2 2) [(7, 7), (0, 7)] := rd_eds hrow trivial (by decide) (fl2 _ _)
  clear hrow hb15
  have hcl := stuck_any _ r2
  refine hcl.mono ?_
  rintro e w16 ⟨aZ, cZ, rfl, _, hb⟩
  rw [stk12n]
  clear hcl r2
  replace rE := rE.below hb
  replace rhA := rhA.below hb
  replace rqA := rqA.below hb
  replace xA := xA.below hb xA.lt
  replace xB := xB.below hb xB.lt
  replace rhB := rhB.below hb
  replace rqB := rqB.below hb
  replace rS := rS.below hb
  replace rG := rG.below hb
  replace tb := tb.below hb
  replace q := q.trans (hb.mono q.size)
  clear hb
  go_wp2_with fail
  go_ret
  exact ⟨rfl, q⟩
end Go.Proofs.YtpdnehgboafgpaaDoor
namespace Go.Proofs.YtpdnehgboafgpaaDoor
open Go.RowKit Go.Shelf
theorem VicEnd.one {E : List Ed} {s : Nat → Int} {e : Ending} (h : VicEnd E s e) : ∃ (v : Int) (is : Bool), e = .returned (.tuple #[.int .i64 v, .bool is]) ∧ ∀ e', VicEnd E s e' → e' = .returned (.tuple #[.int .i64 v, .bool is]) := by
  rcases h with ⟨h1, rfl⟩ | ⟨v, h1, rfl⟩
  · refine ⟨_, _, rfl, fun e' h' => ?_⟩
    rcases h' with ⟨_, rfl⟩ | ⟨u, h2, _⟩
    · rfl
    · have := h2.1; rw [h1] at this; cases this
  · refine ⟨_, _, rfl, fun e' h' => ?_⟩
    rcases h' with ⟨h2, _⟩ | ⟨u, h2, rfl⟩
    · have := h1.1; rw [h2] at this; cases this
    · rw [vic_uniq h2 h1]
def sgVe (l : List Ed) : SG := ⟨fun w v => ∃ a c, v = .slice a l.length c ∧ RdL Elt.ed (fun _ => True) w (.slice a l.length c) l, fun _ _ _ ⟨a, c, e, h⟩ hb => ⟨a, c, e, h.below hb⟩⟩
set_option maxRecDepth 100000 in
set_option maxHeartbeats 32000000 in
theorem WaitTells_w (w : World) (hT : TabAt w) {cs0 cs2 : Array Value} {a1 : Option Addr} {n1 c1 : Nat} {d : List Lk × List Lk} {E : List Ed} {s : Nat → Int} (h0 : RdLs2 (· < w.heap.size) w (.agg cs0) d) (h1 : RdL Elt.ed (· < w.heap.size) w (.slice a1 n1 c1) E) (h2 : RdI4 (· < w.heap.size) w (.agg cs2) s) :
    Calls Tryd.prog 4 #[.agg cs0, .slice a1 n1 c1, .agg cs2] w fun e w' => e = .returned (.bool true) ∧ Below w.heap.size w w' := by
  obtain ⟨H, Q⟩ := d
  replace h0 : RdLs (· < w.heap.size) w (.agg cs0) H Q := h0
  have hd := h0
  obtain ⟨aH, cH, aQ, cQ, e, hH, hQ⟩ := h0
  injection e with e
  subst e
  clear hH hQ
  injection h2 with h2
  subst h2
  obtain ⟨rfl, _, hcm⟩ := h1.len
  have hl1 : E.length ≤ 9223372036854775807 := by unfold maxLen at hcm; omega
  clear hcm
  obtain ⟨W0, hW, q, Bl, Bs, hsz⟩ := boxes2 w 24 40 [.slice aH H.length cH, .slice aQ Q.length cQ] [.int .i64 (s 0), .int .i64 (s 1), .int .i64 (s 2), .int .i64 (s 3)]
  clear hsz
  go_enter Tryd.func4, Tryd.ntmps4
  go_upto_region 1 with (fail)
  rw [show (w.alloc (.cells #[.slice aH H.length cH, .slice aQ Q.length cQ] 24)).alloc (.cells #[.int .i64 (s 0), .int .i64 (s 1), .int .i64 (s 2), .int .i64 (s 3)] 40) = W0 from hW.symm]
  clear hW
  go_wp2_with fail
  refine (awake12_any W0 (hT.below q)).mono ?_
  rintro e w1 ⟨rfl, hb⟩
  replace Bl := Bl.below hb Bl.lt
  replace Bs := Bs.below hb Bs.lt
  replace q := q.trans (hb.mono q.size)
  clear hb
  have b0 := Bl.cell (i := 0) rfl
  have b1 := Bl.cell (i := 1) rfl
  have hcl := fewK_any _ (RdLs.below hd q)
  go_wp2_with fail
  refine hcl.mono ?_
  rintro e wq1 ⟨rfl, hb⟩
  clear hcl b0 b1
  replace Bl := Bl.below hb Bl.lt
  replace Bs := Bs.below hb Bs.lt
  replace q := q.trans (hb.mono q.size)
  clear hb
  by_cases hf : fewK H Q
  case neg =>
    rw [decide_eq_false hf]
    go_wp2_with fail
    go_ret
    exact ⟨rfl, q⟩
  rw [decide_eq_true hf]
  have hcl := few12_any _ (h1.below q)
  go_wp2_with fail
  refine hcl.mono ?_
  rintro e wq2 ⟨rfl, hb⟩
  clear hcl
  replace Bl := Bl.below hb Bl.lt
  replace Bs := Bs.below hb Bs.lt
  replace q := q.trans (hb.mono q.size)
  clear hb
  by_cases he : E.length ≤ 12
  case neg =>
    rw [decide_eq_false he]
    go_wp2_with fail
    go_ret
    exact ⟨rfl, q⟩
  rw [decide_eq_true he]
  have hnH : H.length ≤ 60 := hf.1.1
  have hnQ : Q.length ≤ 60 := hf.2.1
  clear hf he
  have i0 := Bs.cell (i := 0) rfl
  have i1 := Bs.cell (i := 1) rfl
  have i2 := Bs.cell (i := 2) rfl
  have i3 := Bs.cell (i := 3) rfl
  have hcl := victim_any _ (h1.below q) s
  go_wp2_with fail
  refine hcl.mono ?_
  rintro e xv ⟨hv, hb⟩
  obtain ⟨rv, iv, rfl, hvu⟩ := hv.one
  clear hcl hv i0 i1 i2 i3
  replace Bl := Bl.below hb Bl.lt
  replace Bs := Bs.below hb Bs.lt
  replace q := q.trans (hb.mono q.size)
  clear hb
  go_upto_region 5 with (fail)
  have i0 := Bs.cell (i := 0) rfl
  have i1 := Bs.cell (i := 1) rfl
  have i2 := Bs.cell (i := 2) rfl
  have i3 := Bs.cell (i := 3) rfl
  have hcl := rVictim_any _ (h1.below q) s
  go_wp2_with fail
  refine hcl.mono ?_
  rintro e xu ⟨hu, hb⟩
  obtain rfl := hvu _ hu
  clear hcl hu i0 i1 i2 i3
  replace Bl := Bl.below hb Bl.lt
  replace Bs := Bs.below hb Bs.lt
  replace q := q.trans (hb.mono q.size)
  clear hb
  go_upto_region 6 with (fail)
  clear hvu
  have eA : ∀ args w, (callFunc 25 args).run Tryd.prog w = .ok (.enter 25 args) w := enters_of Tryd.func25 (by kernel_rfl) rfl
  have eB : ∀ args w, (callFunc 26 args).run Tryd.prog w = .ok (.enter 26 args) w := enters_of Tryd.func26 (by kernel_rfl) rfl
  have eM : ∀ args w, (callFunc 24 args).run Tryd.prog w = .ok (.enter 24 args) w := enters_of Tryd.func24 (by kernel_rfl) rfl
  have eC : ∀ args w, (callFunc 27 args).run Tryd.prog w = .ok (.enter 27 args) w := enters_of Tryd.func27 (by kernel_rfl) rfl
  have eD : ∀ args w, (callFunc 28 args).run Tryd.prog w = .ok (.enter 28 args) w := enters_of Tryd.func28 (by kernel_rfl) rfl
  have eN : ∀ args w, (callFunc 11 args).run Tryd.prog w = .ok (.enter 11 args) w := enters_of Tryd.func11 (by kernel_rfl) rfl
  obtain ⟨V, hV⟩ : ∃ V, V = xu := ⟨_, rfl⟩
  rw [← hV] at q Bl Bs
  rw [← hV]
  clear hV
  have tb := hT.below q
  have hdV := RdLs.below hd q
  have hEV := h1.below q
  refine wp_region_gsg (by kernel_rfl) (by kernel_rfl) [sgEq (.agg #[.slice aH H.length cH, .slice aQ Q.length cQ]), sgVe (edgesL H Q), sgEq (.agg #[.slice aH H.length cH, .slice aQ Q.length cQ]), sgVe (edgesL H Q), sgEq (.bool true), sgEq (.bool true), sgEq (.slice a1 E.length c1), sgVi (stuckL E), sgEq (.slice a1 E.length c1), sgVi (stuckL E), sgEq (.bool true), sgEq (.bool true), sgEq (.bool true)]
    ⟨?o0, ?o1, ?o2, ?o3, ?o4, ?o5, ?o6, ?o7, ?o8, ?o9, ?o10, ?o11, ?o12, trivial⟩ ?fin
  case o0 =>
    refine GdOp.plain rfl (fun A vs w' hF hT hb hd => ?_)
    have e1 : A.eval (.tmp 3) = .pointer (some ⟨w.heap.size, 0, none⟩) := hF 3 rfl
    exact wp_loadU (us := [.slice aH H.length cH, .slice aQ Q.length cQ]) lsS2 rfl e1 (fun j u hj => by rw [Nat.zero_add]; exact (Bl.below hb Bl.lt).cell hj) ⟨_, rfl, rfl, Below.refl _ _⟩
  case o1 =>
    refine GdOp.plain rfl (fun A vs w' hF hT hb hd => ?_)
    have e1 : A.eval (.tmp 35) = .agg #[.slice aH H.length cH, .slice aQ Q.length cQ] := (hT 35 0 (by simp) rfl).trans (hd ⟨0, .data⟩ (by simp) rfl)
    refine wp_callFn rfl eA (args := #[.agg #[.slice aH H.length cH, .slice aQ Q.length cQ]]) (by simp only [List.map_toArray, List.map_cons, List.map_nil, e1]) ((edges_any w' (tb.below hb) (hdV.below hb) (by omega) (by omega)).mono ?_)
    rintro e w2 ⟨a9, c9, rfl, ho9, hb2⟩
    exact ⟨_, rfl, _, rfl, ⟨a9, c9, rfl, ho9.rdS fun _ _ _ => trivial⟩, hb2⟩
  case o2 =>
    refine GdOp.plain rfl (fun A vs w' hF hT hb hd => ?_)
    have e1 : A.eval (.tmp 3) = .pointer (some ⟨w.heap.size, 0, none⟩) := hF 3 rfl
    exact wp_loadU (us := [.slice aH H.length cH, .slice aQ Q.length cQ]) lsS2 rfl e1 (fun j u hj => by rw [Nat.zero_add]; exact (Bl.below hb Bl.lt).cell hj) ⟨_, rfl, rfl, Below.refl _ _⟩
  case o3 =>
    refine GdOp.plain rfl (fun A vs w' hF hT hb hd => ?_)
    have e1 : A.eval (.tmp 37) = .agg #[.slice aH H.length cH, .slice aQ Q.length cQ] := (hT 37 2 (by simp) rfl).trans (hd ⟨2, .data⟩ (by simp) rfl)
    refine wp_callFn rfl eB (args := #[.agg #[.slice aH H.length cH, .slice aQ Q.length cQ]]) (by simp only [List.map_toArray, List.map_cons, List.map_nil, e1]) ((rEdges_any w' (hdV.below hb) (by omega) (by omega)).mono ?_)
    rintro e w2 ⟨a9, c9, rfl, ho9, hb2⟩
    exact ⟨_, rfl, _, rfl, ⟨a9, c9, rfl, ho9.rdS fun _ _ _ => trivial⟩, hb2⟩
  case o4 =>
    refine GdOp.plain rfl (fun A vs w' hF hT hb hd => ?_)
    obtain ⟨a1, c1, q1, hr1⟩ := hd ⟨1, .data⟩ (by simp) rfl
    have e1 : A.eval (.tmp 36) = .slice a1 (edgesL H Q).length c1 := (hT 36 1 (by simp) rfl).trans q1
    obtain ⟨a2, c2, q2, hr2⟩ := hd ⟨3, .data⟩ (by simp) rfl
    have e2 : A.eval (.tmp 38) = .slice a2 (edgesL H Q).length c2 := (hT 38 3 (by simp) rfl).trans q2
    refine wp_callFn rfl eM (args := #[.slice a1 (edgesL H Q).length c1, .slice a2 (edgesL H Q).length c2]) (by simp only [List.map_toArray, List.map_cons, List.map_nil, e1, e2]) ((edSame_any w' hr1 hr2).mono ?_)
    rintro e w2 ⟨rfl, hb2⟩
    exact ⟨_, rfl, _, rfl, congrArg Value.bool (decide_eq_true rfl), hb2⟩
  case o5 =>
    refine GdOp.plain rfl (fun A vs w' hF hT hb hd => ?_)
    have e1 : A.eval (.tmp 39) = .bool true := (hT 39 4 (by simp) rfl).trans (hd ⟨4, .data⟩ (by simp) rfl)
    exact BigFrame.wp_move _ rfl ⟨_, rfl, e1, Below.refl _ _⟩
  case o6 =>
    refine GdOp.taken rfl ⟨_, _, rfl, rfl, by simp⟩ (by kernel_rfl) (fun w v h => h) (fun A vs w' hF hT hb hd => ?_)
    have e1 : A.eval (.tmp 1) = .slice a1 E.length c1 := hF 1 rfl
    exact BigFrame.wp_move _ rfl ⟨_, rfl, e1, Below.refl _ _⟩
  case o7 =>
    refine GdOp.taken rfl ⟨_, _, rfl, rfl, by simp⟩ (by kernel_rfl) (fun w v h => h) (fun A vs w' hF hT hb hd => ?_)
    have e1 : A.eval (.tmp 41) = .slice a1 E.length c1 := (hT 41 6 (by simp) rfl).trans (hd ⟨6, .data⟩ (by simp) rfl)
    refine wp_callFn rfl eC (args := #[.slice a1 E.length c1]) (by simp only [List.map_toArray, List.map_cons, List.map_nil, e1]) ((stuck_any w' (hEV.below hb)).mono ?_)
    rintro e w2 ⟨a9, c9, rfl, ho9, hb2⟩
    exact ⟨_, rfl, _, rfl, ⟨a9, c9, rfl, ho9.rdS fun _ _ _ => trivial⟩, hb2⟩
  case o8 =>
    refine GdOp.taken rfl ⟨_, _, rfl, rfl, by simp⟩ (by kernel_rfl) (fun w v h => h) (fun A vs w' hF hT hb hd => ?_)
    have e1 : A.eval (.tmp 1) = .slice a1 E.length c1 := hF 1 rfl
    exact BigFrame.wp_move _ rfl ⟨_, rfl, e1, Below.refl _ _⟩
  case o9 =>
    refine GdOp.taken rfl ⟨_, _, rfl, rfl, by simp⟩ (by kernel_rfl) (fun w v h => h) (fun A vs w' hF hT hb hd => ?_)
    have e1 : A.eval (.tmp 43) = .slice a1 E.length c1 := (hT 43 8 (by simp) rfl).trans (hd ⟨8, .data⟩ (by simp) rfl)
    refine wp_callFn rfl eD (args := #[.slice a1 E.length c1]) (by simp only [List.map_toArray, List.map_cons, List.map_nil, e1]) ((rStuck_any w' (hEV.below hb)).mono ?_)
    rintro e w2 ⟨a9, c9, rfl, ho9, hb2⟩
    exact ⟨_, rfl, _, rfl, ⟨a9, c9, rfl, ho9.rdS fun _ _ _ => trivial⟩, hb2⟩
  case o10 =>
    refine GdOp.taken rfl ⟨_, _, rfl, rfl, by simp⟩ (by kernel_rfl) (fun w v h => h) (fun A vs w' hF hT hb hd => ?_)
    obtain ⟨a1, c1, q1, hr1⟩ := hd ⟨7, .data⟩ (by simp) rfl
    have e1 : A.eval (.tmp 42) = .slice a1 (stuckL E).length c1 := (hT 42 7 (by simp) rfl).trans q1
    obtain ⟨a2, c2, q2, hr2⟩ := hd ⟨9, .data⟩ (by simp) rfl
    have e2 : A.eval (.tmp 44) = .slice a2 (stuckL E).length c2 := (hT 44 9 (by simp) rfl).trans q2
    refine wp_callFn rfl eN (args := #[.slice a1 (stuckL E).length c1, .slice a2 (stuckL E).length c2]) (by simp only [List.map_toArray, List.map_cons, List.map_nil, e1, e2]) ((numbers_any w' hr1 hr2).mono ?_)
    rintro e w2 ⟨rfl, hb2⟩
    exact ⟨_, rfl, _, rfl, congrArg Value.bool (decide_eq_true rfl), hb2⟩
  case o11 =>
    refine GdOp.plain rfl (fun A vs w' hF hT hb hd => ?_)
    have e1 : A.eval (.tmp 40) = .bool true := (hT 40 5 (by simp) rfl).trans (hd ⟨5, .data⟩ (by simp) rfl)
    have e2 : A.eval (.tmp 45) = .bool true := (hT 45 10 (by simp) rfl).trans (hd ⟨10, .data⟩ (by simp) rfl)
    exact wp_pk rfl e1 (fun _ => e2) (by simp) ⟨_, rfl, rfl, Below.refl _ _⟩
  case o12 =>
    refine GdOp.plain rfl (fun A vs w' hF hT hb hd => ?_)
    have e1 : A.eval (.tmp 46) = .bool true := (hT 46 11 (by simp) rfl).trans (hd ⟨11, .data⟩ (by simp) rfl)
    exact BigFrame.wp_assign _ rfl ⟨_, rfl, e1, Below.refl _ _⟩
  case fin =>
  intro vs9 W9 hb9 hG9
  have e0 : vs9 0 = .agg #[.slice aH H.length cH, .slice aQ Q.length cQ] := hG9 0 (by decide)
  obtain ⟨gx1, gy1, e1, _⟩ := hG9 1 (by decide)
  have e2 : vs9 2 = .agg #[.slice aH H.length cH, .slice aQ Q.length cQ] := hG9 2 (by decide)
  obtain ⟨gx3, gy3, e3, _⟩ := hG9 3 (by decide)
  have e4 : vs9 4 = .bool true := hG9 4 (by decide)
  have e5 : vs9 5 = .bool true := hG9 5 (by decide)
  have e6 : vs9 6 = .slice a1 E.length c1 := hG9 6 (by decide)
  obtain ⟨gx7, gy7, e7, _⟩ := hG9 7 (by decide)
  have e8 : vs9 8 = .slice a1 E.length c1 := hG9 8 (by decide)
  obtain ⟨gx9, gy9, e9, _⟩ := hG9 9 (by decide)
  have e10 : vs9 10 = .bool true := hG9 10 (by decide)
  have e11 : vs9 11 = .bool true := hG9 11 (by decide)
  have e12 : vs9 12 = .bool true := hG9 12 (by decide)
  simp only [putAll, e0, e1, e2, e3, e4, e5, e6, e7, e8, e9, e10, e11, e12]
  clear hG9 e0 e1 e2 e3 e4 e5 e6 e7 e8 e9 e10 e11 e12
  replace Bl := Bl.below hb9 Bl.lt
  replace Bs := Bs.below hb9 Bs.lt
  replace q := q.trans (hb9.mono q.size)
  clear hb9
  go_simp
  have d1 : (rv == rv) = true := by simp
  have d2 : (iv == iv) = true := by simp
  have d3 : decide (rv = rv) = true := by simp
  go_wp2_with fail
  go_ret
  exact ⟨rfl, q⟩
end Go.Proofs.YtpdnehgboafgpaaDoor
namespace Go.Proofs.YtpdnehgboafgpaaDoor
theorem goD_tot : ∀ (l H Q : List Lk) (c : List Int), (goD H Q l c).1.length + (goD H Q l c).2.1.length ≤ H.length + Q.length + l.length
  | [], _, _, _ => by simp [goD]
  | x :: l, H, Q, c => by
    rw [goD_cons]
    split
    · have := goD_tot l H (Q ++ [x]) c
      simp only [List.length_append, List.length_cons, List.length_nil] at this ⊢; omega
    · have := goD_tot l (heldA x H) Q (c ++ [x.owner])
      have := heldA_len x H
      simp only [List.length_cons] at this ⊢; omega
theorem drop_len (H Q : List Lk) (o : Int) : (dropC H Q o).1.length + (dropC H Q o).2.1.length ≤ H.length + Q.length := by
  unfold dropC
  split
  · have := goD_tot (lessL o Q) (lessL o H) [] []
    have := less_len o H
    have := less_len o Q
    simp only [List.length_nil] at *
    omega
  · simp
theorem sub_ne {a b : Int} {l m : List Int} (h : (b :: l).Sublist (a :: m)) (hn : a ≠ b) : (b :: l).Sublist m := by
  rcases List.sublist_cons_iff.1 h with h | ⟨r, h1, _⟩
  · exact h
  · injection h1 with h1
    exact absurd h1.symm hn
end Go.Proofs.YtpdnehgboafgpaaDoor
namespace Go.Proofs.YtpdnehgboafgpaaDoor
open Go.RowKit Go.Shelf
set_option maxRecDepth 100000 in
set_option maxHeartbeats 32000000 in
theorem WaitLess_w (w : World) (hT : TabAt w) {cs0 : Array Value} {o : Int} {d : List Lk × List Lk} (h0 : RdLs2 (· < w.heap.size) w (.agg cs0) d) (h1 : (Lit.int .i64 o).wf = true) :
    Calls Tryd.prog 7 #[.agg cs0, .int .i64 o] w fun e w' => e = .returned (.bool true) ∧ Below w.heap.size w w' := by
  obtain ⟨H, Q⟩ := d
  replace h0 : RdLs (· < w.heap.size) w (.agg cs0) H Q := h0
  have hd := h0
  obtain ⟨aH, cH, aQ, cQ, e, hH, hQ⟩ := h0
  injection e with e
  subst e
  clear hH hQ
  have _ := h1
  obtain ⟨W0, hW, q, Bl, hsz⟩ := spBox w 24 [.slice aH H.length cH, .slice aQ Q.length cQ]
  clear hsz
  go_enter Tryd.func7, Tryd.ntmps7
  go_upto_region 1 with (fail)
  rw [show w.alloc (.cells #[.slice aH H.length cH, .slice aQ Q.length cQ] 24) = W0 from hW.symm]
  clear hW
  go_wp2_with fail
  refine (awake12_any W0 (hT.below q)).mono ?_
  rintro e w1 ⟨rfl, hb⟩
  replace Bl := Bl.below hb Bl.lt
  replace q := q.trans (hb.mono q.size)
  clear hb
  have b0 := Bl.cell (i := 0) rfl
  have b1 := Bl.cell (i := 1) rfl
  have hcl := fewK_any _ (RdLs.below hd q)
  go_wp2_with fail
  refine hcl.mono ?_
  rintro e wq1 ⟨rfl, hb⟩
  clear hcl b0 b1
  replace Bl := Bl.below hb Bl.lt
  replace q := q.trans (hb.mono q.size)
  clear hb
  by_cases hf : fewK H Q
  case neg =>
    rw [decide_eq_false hf]
    go_wp2_with fail
    go_ret
    exact ⟨rfl, q⟩
  rw [decide_eq_true hf]
  have hsH : smK H := ⟨by have := hf.1.1; omega, fun y hy => by have := hf.1.2 y hy; exact ⟨by omega, by omega⟩⟩
  have hsQ : smK Q := ⟨by have := hf.2.1; omega, fun y hy => by have := hf.2.2 y hy; exact ⟨by omega, by omega⟩⟩
  have hnH : H.length ≤ 60 := hf.1.1
  have hnQ : Q.length ≤ 60 := hf.2.1
  clear hf
  have b0 := Bl.cell (i := 0) rfl
  have b1 := Bl.cell (i := 1) rfl
  have hcl := edges_any _ (hT.below q) (RdLs.below hd q) (by omega) (by omega)
  go_wp2_with fail
  refine hcl.mono ?_
  rintro e xA ⟨ae, ce, rfl, hE, hb⟩
  have rE : RdL Elt.ed (fun _ => True) _ (.slice ae (edgesL H Q).length ce) (edgesL H Q) := hE.rdS fun _ _ _ => trivial
  clear hcl hE b0 b1
  replace Bl := Bl.below hb Bl.lt
  replace q := q.trans (hb.mono q.size)
  clear hb
  have hcl := stuck_any _ rE
  go_wp2_with fail
  refine hcl.mono ?_
  rintro e yA ⟨aA, cA, rfl, hS, hb⟩
  have rA : RdL Elt.int (fun _ => True) _ (.slice aA (stuckL (edgesL H Q)).length cA) (stuckL (edgesL H Q)) := hS.rdS fun _ _ _ => trivial
  clear hcl hS rE
  replace Bl := Bl.below hb Bl.lt
  replace q := q.trans (hb.mono q.size)
  clear hb
  go_upto_region 5 with (fail)
  have b0 := Bl.cell (i := 0) rfl
  have b1 := Bl.cell (i := 1) rfl
  have hcl := lDrop_any _ (hT.below q) (o := o) (RdLs.below hd q) hsH hsQ (by omega) (by omega)
  have hle := drop_len H Q o
  have hsub := stuck_sub (drop_edges (H := H) (Q := Q) (o := o))
  obtain ⟨r, er⟩ : ∃ r, r = dropC H Q o := ⟨_, rfl⟩
  rw [← er] at hcl hle hsub
  clear er
  go_wp2_with fail
  refine hcl.mono ?_
  rintro e v1 ⟨ra, rc, ra2, rc2, ra3, rc3, rfl, hrd, _, hb⟩
  clear hcl b0 b1
  replace hrd : RdLs (fun _ => True) _ _ r.1 r.2.1 := hrd.weak fun _ _ => trivial
  replace Bl := Bl.below hb Bl.lt
  replace rA := rA.below hb
  replace q := q.trans (hb.mono q.size)
  clear hb
  obtain ⟨rH, rQ, rl⟩ := r
  replace hrd : RdLs (fun _ => True) v1 (.agg #[.slice ra rH.length rc, .slice ra2 rQ.length rc2]) rH rQ := hrd
  replace hle : rH.length + rQ.length ≤ H.length + Q.length := hle
  replace hsub : (stuckL (edgesL rH rQ)).Sublist (stuckL (edgesL H Q)) := hsub
  go_upto_region 6 with (first | (refine wpList_boxNew (vs := [.slice none 0 0, .slice none 0 0]) (by kernel_rfl) rfl rfl ?_; intro wa hba hBa) | (refine wpList_boxStore (us := [.slice ra rH.length rc, .slice ra2 rQ.length rc2]) (by kernel_rfl) rfl rfl rfl rfl rfl rfl hBa rfl ?_; intro v2 hgw Br) | fail)
  try go_simp
  have hbw := hba.grown hgw hba.size fun k hk => by injection hk with hk; omega
  replace Bl := Bl.below hbw Bl.lt
  replace rA := rA.below hbw
  replace hrd := hrd.below hbw
  replace q := q.trans (hbw.mono q.size)
  clear hbw hgw hba hBa
  obtain ⟨bR, ebR⟩ : ∃ b, b = v1.heap.size := ⟨_, rfl⟩
  rw [← ebR] at Br
  rw [← ebR]
  clear ebR
  have b0 := Br.cell (i := 0) rfl
  have b1 := Br.cell (i := 1) rfl
  have hcl := edges_any _ (hT.below q) hrd (by omega) (by omega)
  go_wp2_with fail
  refine hcl.mono ?_
  rintro e xB ⟨ae, ce, rfl, hE, hb⟩
  have rE : RdL Elt.ed (fun _ => True) _ (.slice ae (edgesL rH rQ).length ce) (edgesL rH rQ) := hE.rdS fun _ _ _ => trivial
  clear hcl hE b0 b1
  replace Bl := Bl.below hb Bl.lt
  replace rA := rA.below hb
  replace hrd := hrd.below hb
  replace Br := Br.below hb Br.lt
  replace q := q.trans (hb.mono q.size)
  clear hb
  have hcl := stuck_any _ rE
  go_wp2_with fail
  refine hcl.mono ?_
  rintro e yB ⟨aB, cB, rfl, hS, hb⟩
  have rB : RdL Elt.int (fun _ => True) _ (.slice aB (stuckL (edgesL rH rQ)).length cB) (stuckL (edgesL rH rQ)) := hS.rdS fun _ _ _ => trivial
  clear hcl hS rE
  replace Bl := Bl.below hb Bl.lt
  replace rA := rA.below hb
  replace hrd := hrd.below hb
  replace Br := Br.below hb Br.lt
  replace q := q.trans (hb.mono q.size)
  clear hb
  obtain ⟨A, eA⟩ : ∃ l, l = stuckL (edgesL H Q) := ⟨_, rfl⟩
  obtain ⟨B, eB⟩ : ∃ l, l = stuckL (edgesL rH rQ) := ⟨_, rfl⟩
  rw [← eA] at rA hsub
  rw [← eB] at rB hsub
  rw [← eA, ← eB]
  clear eA eB hrd Br Bl
  have hlA : A.length ≤ 9223372036854775807 := by obtain ⟨_, hc, hm⟩ := rA.len; unfold maxLen at hm; omega
  have hlB : B.length ≤ 9223372036854775807 := by obtain ⟨_, hc, hm⟩ := rB.len; unfold maxLen at hm; omega
  go_upto_region 9 with (fail)
  have qa := q
  obtain ⟨V, hV⟩ : ∃ V, V = yB := ⟨_, rfl⟩
  rw [← hV] at rA rB q
  rw [← hV]
  clear hV qa
  go_loopw [10, 11] (fun kv iv wr => ∃ k i : Nat, kv = .int .i64 (k : Int) ∧ iv = .int .i64 (i : Int) ∧ i ≤ A.length ∧ k ≤ B.length ∧ (B.drop k).Sublist (A.drop i) ∧ Below V.heap.size V wr) (fun _ iv _ => A.length - (intOf iv).toNat)
  case atStart => exact ⟨0, 0, rfl, rfl, Nat.zero_le _, Nat.zero_le _, by simpa using hsub, Below.refl _ _⟩
  case round =>
  clear hsub
  obtain ⟨k, i, rfl, rfl, hiA, hkB, hsub, q2⟩ := hrel
  replace hsub := Lib.hid hsub
  rcases Nat.lt_or_ge i A.length with hil | hig
  · have d0 : decide ((i : Int) < (A.length : Int)) = true := decide_eq_true (by omega)
    rcases Nat.lt_or_ge k B.length with hkl | hkg
    · have d1 : decide ((k : Int) < (B.length : Int)) = true := decide_eq_true (by omega)
      obtain ⟨p1, o1, rfl, _, ca, _⟩ := (rA.below q2).num i hil
      obtain ⟨p2, o2, rfl, _, cb, _⟩ := (rB.below q2).num k hkl
      have hyes := Lib.hid (show A[i] = B[k] → (B.drop (k + 1)).Sublist (A.drop (i + 1)) from fun h => by
          have h1 := hsub.out
          rw [List.drop_eq_getElem_cons hil, List.drop_eq_getElem_cons hkl, h] at h1
          exact List.cons_sublist_cons.1 h1)
      have hno := Lib.hid (show A[i] ≠ B[k] → (B.drop k).Sublist (A.drop (i + 1)) from fun h => by
          have h1 := hsub.out
          rw [List.drop_eq_getElem_cons hil, List.drop_eq_getElem_cons hkl] at h1
          rw [List.drop_eq_getElem_cons hkl]
          exact sub_ne h1 h)
      obtain ⟨x, ex⟩ : ∃ x, x = A[i] := ⟨_, rfl⟩
      obtain ⟨y, ey⟩ : ∃ y, y = B[k] := ⟨_, rfl⟩
      rw [← ex] at ca hyes hno
      rw [← ey] at cb hyes hno
      clear ex ey hsub
      by_cases e : x = y
      · have d2 : (x == y) = true := beq_iff_eq.2 e
        have d3 : decide (x = y) = true := decide_eq_true e
        have hs := Lib.hid (hyes.out e)
        clear e hyes hno
        go_upto_region 11 with (fail)
        go_quiet (fail)
        go_wp2_with fail
        go_roundw
        case rel => exact ⟨k + 1, i + 1, by go_num, by go_num, by omega, by omega, hs.out, Below.drewN q2 _⟩
        case measure => simp [intOf]; omega
      · have d2 : (x == y) = false := beq_eq_false_iff_ne.2 e
        have d3 : decide (x = y) = false := decide_eq_false e
        have hs := Lib.hid (hno.out e)
        clear e hyes hno
        go_upto_region 11 with (fail)
        go_quiet (fail)
        go_wp2_with fail
        go_roundw
        case rel => exact ⟨k, i + 1, rfl, by go_num, by omega, by omega, hs.out, Below.drewN q2 _⟩
        case measure => simp [intOf]; omega
    · obtain rfl : k = B.length := by omega
      have d1 : decide ((B.length : Int) < (B.length : Int)) = false := decide_eq_false (by omega)
      have d2 : ((B.length : Int) == (B.length : Int)) = true := by simp
      clear hsub
      go_wp2_with fail
      go_ret
      exact ⟨rfl, q.trans (q2.mono q.size)⟩
  · obtain rfl : i = A.length := by omega
    have hk : k = B.length := by
        have h1 := hsub.out
        rw [List.drop_length] at h1
        have h2 := List.sublist_nil.1 h1
        have h3 := congrArg List.length h2
        rw [List.length_drop] at h3
        simp at h3
        omega
    obtain rfl := hk
    have d0 : decide ((A.length : Int) < (A.length : Int)) = false := decide_eq_false (by omega)
    have d2 : ((B.length : Int) == (B.length : Int)) = true := by simp
    clear hsub
    go_wp2_with fail
    go_ret
    exact ⟨rfl, q.trans (q2.mono q.size)⟩
end Go.Proofs.YtpdnehgboafgpaaDoor
namespace Go.Proofs.YtpdnehgboafgpaaDoor
open Go.RowKit Go.Shelf
def outE (z : Nat) (l : List Ed) : List Ed := l.filter fun e => decide (e.1 ≠ (z : Int))
theorem outE_snoc {z : Nat} {l : List Ed} {i : Nat} (h : i < l.length) : outE z (l.take (i + 1)) = outE z (l.take i) ++ (if l[i].1 ≠ (z : Int) then [l[i]] else []) := by
  unfold outE
  rw [List.take_succ_eq_append_getElem h, List.filter_append]
  congr 1
  by_cases e : l[i].1 = (z : Int) <;> simp [e]
theorem outE_len (z : Nat) (l : List Ed) : (outE z l).length ≤ l.length := List.length_filter_le _ _
theorem outE_stuck (z : Nat) (l : List Ed) : (z : Int) ∉ stuckL (outE z l) := by
  intro h
  obtain ⟨k, e, _, h1⟩ := stuck_mem.1 h
  obtain rfl : z = k := by omega
  obtain ⟨c, hc⟩ := (reach_iff.1 h1).first
  have := (List.mem_filter.1 hc).2
  simp at this
theorem RowNew.zero {Te : TypeId} {n : Nat} {w W : World} (hQ : RowQ Te n W (.slice (some ⟨w.heap.size, 0, none⟩) 0 0) 0 []) (hb : Below w.heap.size w W) : RowNew Te n w (.slice (some ⟨w.heap.size, 0, none⟩) 0 0) 0 [] W :=
  ⟨hQ, fun k hk => by
    have e : w.heap.size = k := Option.some.inj hk
    omega, hb⟩
theorem flatEd {S S' : Nat → Prop} {w w' : World} : ∀ {l : List Ed} {vs : List Value}, Flat Elt.ed S w l vs → Flat Elt.ed S' w' l vs
  | [], _, h => h
  | _ :: _, _, ⟨us, ws, e, h1, h2⟩ => ⟨us, ws, e, h1, flatEd h2⟩
theorem past_num {b : Nat} {w w' : World} {v : Value} {l : List Int} (h : RdL Elt.int (· ≠ b) w v l) (hg : w.grownBy w' (some b)) : RdL Elt.int (· ≠ b) w' v l :=
  (h.fit.keep fun k hk => hg.block k hk.2 fun e => by injection e with e; exact hk.1 e).weak fun _ hk => hk.1
set_option maxRecDepth 100000 in
set_option maxHeartbeats 32000000 in
theorem WaitMore_w (w : World) (hT : TabAt w) {a0 a1 : Option Addr} {n0 c0 n1 c1 : Nat} {a2 : Int} {E F : List Ed} (h0 : RdL Elt.ed (· < w.heap.size) w (.slice a0 n0 c0) E) (h1 : RdL Elt.ed (· < w.heap.size) w (.slice a1 n1 c1) F) (h2 : 0 ≤ a2) (h3 : a2 < 256) :
    Calls Tryd.prog 6 #[.slice a0 n0 c0, .slice a1 n1 c1, .int .u8 a2] w fun e w' => e = .returned (.bool true) ∧ Below w.heap.size w w' := by
  have tb := hT
  obtain ⟨rfl, _, hmE⟩ := h0.len
  have hlE : E.length ≤ 9223372036854775807 := by unfold maxLen at hmE; omega
  clear hmE
  obtain ⟨rfl, _, hmF⟩ := h1.len
  have hlF : F.length ≤ 9223372036854775807 := by unfold maxLen at hmF; omega
  clear hmF
  have q := Below.refl w.heap.size w
  go_enter Tryd.func6, Tryd.ntmps6
  go_wp2_with fail
  refine (awake12_any w hT).mono ?_
  rintro e w1 ⟨rfl, hb⟩
  replace q := q.trans (hb.mono q.size)
  clear hb
  have hcl := few12_any _ (h0.below q)
  go_wp2_with fail
  refine hcl.mono ?_
  rintro e wq1 ⟨rfl, hb⟩
  clear hcl
  replace q := q.trans (hb.mono q.size)
  clear hb
  by_cases heE : E.length ≤ 12
  case neg =>
    rw [decide_eq_false heE]
    go_wp2_with fail
    go_ret
    exact ⟨rfl, q⟩
  rw [decide_eq_true heE]
  have hcl := few12_any _ (h1.below q)
  go_wp2_with fail
  refine hcl.mono ?_
  rintro e wq2 ⟨rfl, hb⟩
  clear hcl
  replace q := q.trans (hb.mono q.size)
  clear hb
  by_cases heF : F.length ≤ 12
  case neg =>
    rw [decide_eq_false heF]
    go_wp2_with fail
    go_ret
    exact ⟨rfl, q⟩
  rw [decide_eq_true heF]
  go_wp2_with fail
  have hcl := stuck_any _ (h0.below q)
  refine hcl.mono ?_
  rintro e yA ⟨aA, cA, rfl, hS, hb⟩
  have rA : RdL Elt.int (fun _ => True) _ (.slice aA (stuckL (E)).length cA) (stuckL (E)) := hS.rdS fun _ _ _ => trivial
  clear hcl hS
  replace q := q.trans (hb.mono q.size)
  clear hb
  obtain ⟨V0, hV0⟩ : ∃ V, V = yA := ⟨_, rfl⟩
  rw [← hV0] at rA
  rw [← hV0] at q
  rw [← hV0]
  clear hV0
  obtain ⟨vX, fX, sX⟩ := (h0.below q).srcC
  obtain ⟨vY, fY, sY⟩ := (h1.below q).srcC
  replace fX : Flat Elt.ed (fun _ => True) V0 E vX := fX.weak fun _ _ => trivial
  replace fY : Flat Elt.ed (fun _ => True) V0 F vY := fY.weak fun _ _ => trivial
  go_wp2_with (first
    | (refine wpList_buildNil edP.toLsP rfl rfl ?_; intro w2 hQ2 hb2)
    | (refine wpList_appS edP (by decide) rfl rfl (k := 0) rfl hQ2 rfl (sX.below hb2) (by omega) ?_; intro ad3 cap3 w3 hT3; rw [Nat.zero_add] at hT3 ⊢)
    | (refine wpList_appS edP (by decide) rfl rfl (v := .slice ad3 E.length cap3) (k := E.length) rfl hT3.1 rfl (sY.below ((RowNew.zero hQ2 hb2).to hT3).2.2) (by omega) ?_; intro ad4 cap4 w4 hT4)
    | fail)
  have hR4 := ((RowNew.zero hQ2 hb2).to hT3).to hT4
  have hb4 := hR4.2.2
  replace rA := rA.below hb4
  replace q := q.trans (hb4.mono q.size)
  have rX : RdL Elt.ed (fun _ => True) w4 (.slice ad4 (E.length + F.length) cap4) (E ++ F) := by
    rw [← List.length_append]
    have hF : OwnF Elt.ed 52 (fun _ => True) w4 (.slice ad4 (E ++ F).length cap4) (E ++ F) := ⟨_, by rw [List.length_append]; exact hR4.1, (flatEd fX).append (flatEd fY)⟩
    exact hF.rdL.weak fun _ _ => trivial
  clear hT3 hT4 hQ2 hb2 hR4 hb4 fX fY sX sY
  have hcl := stuck_any _ rX
  refine hcl.mono ?_
  rintro e yB ⟨aB, cB, rfl, hS, hb⟩
  have rB : RdL Elt.int (fun _ => True) _ (.slice aB (stuckL (E ++ F)).length cB) (stuckL (E ++ F)) := hS.rdS fun _ _ _ => trivial
  clear hcl hS
  replace rA := rA.below hb
  replace q := q.trans (hb.mono q.size)
  clear hb
  clear rX
  obtain ⟨V0, hV0⟩ : ∃ V, V = yB := ⟨_, rfl⟩
  rw [← hV0] at rA
  rw [← hV0] at rB
  rw [← hV0] at q
  rw [← hV0]
  clear hV0
  obtain ⟨vX, fX, sX⟩ := (h1.below q).srcC
  obtain ⟨vY, fY, sY⟩ := (h0.below q).srcC
  replace fX : Flat Elt.ed (fun _ => True) V0 F vX := fX.weak fun _ _ => trivial
  replace fY : Flat Elt.ed (fun _ => True) V0 E vY := fY.weak fun _ _ => trivial
  go_wp2_with (first
    | (refine wpList_buildNil edP.toLsP rfl rfl ?_; intro w2 hQ2 hb2)
    | (refine wpList_appS edP (by decide) rfl rfl (k := 0) rfl hQ2 rfl (sX.below hb2) (by omega) ?_; intro ad3 cap3 w3 hT3; rw [Nat.zero_add] at hT3 ⊢)
    | (refine wpList_appS edP (by decide) rfl rfl (v := .slice ad3 F.length cap3) (k := F.length) rfl hT3.1 rfl (sY.below ((RowNew.zero hQ2 hb2).to hT3).2.2) (by omega) ?_; intro ad4 cap4 w4 hT4)
    | fail)
  have hR4 := ((RowNew.zero hQ2 hb2).to hT3).to hT4
  have hb4 := hR4.2.2
  replace rA := rA.below hb4
  replace rB := rB.below hb4
  replace q := q.trans (hb4.mono q.size)
  have rX : RdL Elt.ed (fun _ => True) w4 (.slice ad4 (F.length + E.length) cap4) (F ++ E) := by
    rw [← List.length_append]
    have hF : OwnF Elt.ed 52 (fun _ => True) w4 (.slice ad4 (F ++ E).length cap4) (F ++ E) := ⟨_, by rw [List.length_append]; exact hR4.1, (flatEd fX).append (flatEd fY)⟩
    exact hF.rdL.weak fun _ _ => trivial
  clear hT3 hT4 hQ2 hb2 hR4 hb4 fX fY sX sY
  have hcl := stuck_any _ rX
  refine hcl.mono ?_
  rintro e yC ⟨aC, cC, rfl, hS, hb⟩
  have rC : RdL Elt.int (fun _ => True) _ (.slice aC (stuckL (F ++ E)).length cC) (stuckL (F ++ E)) := hS.rdS fun _ _ _ => trivial
  clear hcl hS
  replace rA := rA.below hb
  replace rB := rB.below hb
  replace q := q.trans (hb.mono q.size)
  clear hb
  clear rX
  obtain ⟨A, eA⟩ : ∃ l, l = stuckL E := ⟨_, rfl⟩
  obtain ⟨B, eB⟩ : ∃ l, l = stuckL (E ++ F) := ⟨_, rfl⟩
  have hBC := Lib.hid (show stuckL (F ++ E) = B from eB ▸ stuck_ext fun e => by simp [or_comm])
  rw [hBC.out] at rC ⊢
  clear hBC
  rw [← eA] at rA
  rw [← eB] at rB
  rw [← eA, ← eB]
  have hAr := Lib.hid (show ∀ x ∈ A, 0 ≤ x ∧ x < 4 from fun x hx => stuck_range (eA ▸ hx))
  have hBr := Lib.hid (show ∀ x ∈ B, 0 ≤ x ∧ x < 4 from fun x hx => stuck_range (eB ▸ hx))
  have hAB := Lib.hid (show ∀ x ∈ A, x ∈ B from fun x hx => by
    rw [eA] at hx; rw [eB]; exact (stuck_sub (F := E ++ F) fun e he => List.mem_append_left _ he).subset hx)
  clear eA eB
  have hlA : A.length ≤ 9223372036854775807 := by obtain ⟨_, hc, hm⟩ := rA.len; unfold maxLen at hm; omega
  have hlB : B.length ≤ 9223372036854775807 := by obtain ⟨_, hc, hm⟩ := rB.len; unfold maxLen at hm; omega
  have qC := q.size
  replace rA : RdL Elt.int (· ≠ yC.heap.size) yC _ _ := rA.fit.weak fun k hk => Nat.ne_of_lt hk.2
  replace rB : RdL Elt.int (· ≠ yC.heap.size) yC _ _ := rB.fit.weak fun k hk => Nat.ne_of_lt hk.2
  replace rC : RdL Elt.int (· ≠ yC.heap.size) yC _ _ := rC.fit.weak fun k hk => Nat.ne_of_lt hk.2
  go_upto_region 9 with (first | (refine wpList_boxNew (vs := [.bool false, .bool false, .bool false, .bool false]) (by kernel_rfl) rfl rfl ?_; intro wa hba hBa) | (refine wpList_boxStore (us := [.bool false, .bool false, .bool false, .bool false]) (by kernel_rfl) rfl rfl rfl rfl rfl rfl hBa rfl ?_; intro w5 hgw Bm) | fail)
  try go_simp
  have hbw := hba.grown hgw hba.size fun k hk => by injection hk with hk; omega
  replace rA := rA.below hbw
  replace rB := rB.below hbw
  replace rC := rC.below hbw
  replace q := q.trans (hbw.mono q.size)
  obtain ⟨bm, ebm⟩ : ∃ b, b = yC.heap.size := ⟨_, rfl⟩
  have hbm : w.heap.size ≤ bm := by rw [ebm]; exact qC
  rw [← ebm] at Bm rA rB rC
  rw [← ebm]
  clear hbw hgw hba hBa ebm qC
  replace Bm : BoxN w5 bm 51 (b4 (mkF [])) := Bm
  go_loopw [12] (fun iv wr => ∃ i : Nat, iv = .int .i64 (i : Int) ∧ i ≤ B.length ∧ BoxN wr bm 51 (b4 (mkF (B.take i))) ∧ RdL Elt.int (· ≠ bm) wr (.slice aA A.length cA) A ∧ RdL Elt.int (· ≠ bm) wr (.slice aB B.length cB) B ∧ RdL Elt.int (· ≠ bm) wr (.slice aC B.length cC) B ∧ Below w.heap.size w wr) (fun iv _ => B.length - (intOf iv).toNat)
  case atStart => exact ⟨0, rfl, Nat.zero_le _, by rw [List.take_zero]; exact Bm, rA, rB, rC, q⟩
  case round =>
  clear Bm rA rB rC q
  obtain ⟨i, rfl, hil, Bm, rA, rB, rC, q⟩ := hrel
  rcases Nat.lt_or_ge i B.length with hlt | hge
  · obtain ⟨p, off, ead, hpn, ck, _⟩ := rB.num i hlt
    subst ead
    have hx := hBr.out _ (List.getElem_mem hlt)
    have hsn := Lib.hid (show mkF (B.take (i + 1)) = mkF (B.take i ++ [B[i]]) by rw [List.take_succ_eq_append_getElem hlt])
    obtain ⟨x, ex⟩ : ∃ x, x = B[i] := ⟨_, rfl⟩
    rw [← ex] at ck hx hsn
    clear ex
    obtain ⟨j, rfl, hj⟩ : ∃ j : Nat, x = (j : Int) ∧ j < 4 := ⟨x.toNat, by omega, by omega⟩
    clear hx
    obtain ⟨l, el⟩ : ∃ l, l = B.take i := ⟨_, rfl⟩
    rw [← el] at Bm hsn
    clear el
    have d0 : decide ((i : Int) < (B.length : Int)) = true := decide_eq_true (by omega)
    have d1 : decide ((j : Int) < 0) = false := decide_eq_false (by omega)
    have d2 : decide ((3 : Int) < (j : Int)) = false := decide_eq_false (by omega)
    go_wp2_with (first | (refine wpList_boxSet (j := j) (u := .bool true) rfl rfl rfl (by kernel_rfl) (by first | rfl | (simp [Act.eval]; done)) rfl rfl rfl Bm (by simpa [b4] using hj) ?_; intro wn hgn Bn) | fail)
    rw [set_b4 hj] at Bn
    replace rA : RdL Elt.int (· ≠ bm) wn _ A := past_num rA hgn
    replace rB : RdL Elt.int (· ≠ bm) wn _ B := past_num rB hgn
    replace rC : RdL Elt.int (· ≠ bm) wn _ B := past_num rC hgn
    replace q := q.grown hgn q.size fun k hk => by injection hk with hk; omega
    clear hgn Bm ck d0 d1 d2
    go_roundw
    case rel => exact ⟨i + 1, by go_num, by omega, by rw [hsn.out]; exact Bn, rA, rB, rC, q⟩
    case measure => simp [intOf]; omega
  · obtain rfl : i = B.length := by omega
    rw [List.take_length] at Bm
    have d0 : decide ((B.length : Int) < (B.length : Int)) = false := decide_eq_false (by omega)
    go_upto_region 15 with (fail)
    clear d0
    obtain ⟨V1, hV1⟩ : ∃ V, V = wr := ⟨_, rfl⟩
    rw [← hV1] at Bm rA rB rC q
    rw [← hV1]
    clear hV1
    go_loopw [13] (fun iv wr => ∃ i : Nat, iv = .int .i64 (i : Int) ∧ i ≤ A.length ∧ Below V1.heap.size V1 wr) (fun iv _ => A.length - (intOf iv).toNat)
    case atStart => exact ⟨0, rfl, Nat.zero_le _, Below.refl _ _⟩
    case round =>
    obtain ⟨i, rfl, hil, q2⟩ := hrel
    rcases Nat.lt_or_ge i A.length with hlt | hge2
    · obtain ⟨p, off, ead, _, ck, _⟩ := (rA.below q2).num i hlt
      subst ead
      have hm := hAB.out _ (List.getElem_mem hlt)
      have hx := hAr.out _ (List.getElem_mem hlt)
      obtain ⟨x, ex⟩ : ∃ x, x = A[i] := ⟨_, rfl⟩
      rw [← ex] at ck hm hx
      clear ex
      obtain ⟨j, rfl, hj⟩ : ∃ j : Nat, x = (j : Int) ∧ j < 4 := ⟨x.toNat, by omega, by omega⟩
      have hF : mkF B j = true := decide_eq_true hm
      have cb0 := (Bm.below q2 Bm.lt).cell (i := j) (b4_at (mkF B) hj)
      rw [hF] at cb0
      have cb1 : wr.cell? ⟨bm, 0 + j * 1, none⟩ = some (.bool true) := by rw [show 0 + j * 1 = j by omega]; exact cb0
      have cb2 : wr.cell? ⟨bm, 0 + j, none⟩ = some (.bool true) := by rw [show 0 + j = j by omega]; exact cb0
      clear hF hm hx
      have d0 : decide ((i : Int) < (A.length : Int)) = true := decide_eq_true (by omega)
      have d1 : decide ((j : Int) < 0) = false := decide_eq_false (by omega)
      have d2 : decide ((3 : Int) < (j : Int)) = false := decide_eq_false (by omega)
      go_wp2_with fail
      go_roundw
      case rel => exact ⟨i + 1, by go_num, by omega, q2⟩
      case measure => simp [intOf]; omega
    · obtain rfl : i = A.length := by omega
      have d0 : decide ((A.length : Int) < (A.length : Int)) = false := decide_eq_false (by omega)
      have rB2 := rB.below q2
      have rC2 := rC.below q2
      replace q := q.trans (q2.mono q.size)
      clear Bm rA rB rC q2
      obtain ⟨u, hu⟩ : ∃ u : Nat, a2 = (u : Int) ∧ u < 256 := ⟨a2.toNat, by omega, by omega⟩
      obtain ⟨rfl, hu⟩ := hu
      go_upto_region 20 with (fail)
      clear d0
      have d4 : (u : Int) % 4 = ((u % 4 : Nat) : Int) := by omega
      obtain ⟨z, ez⟩ : ∃ z, z = u % 4 := ⟨_, rfl⟩
      have hz4 : z < 4 := by omega
      rw [← ez] at d4
      clear ez hu
      go_upto_region 22 with (fail)
      obtain ⟨V2, hV2⟩ : ∃ V, V = wr := ⟨_, rfl⟩
      rw [← hV2] at rB2 rC2 q
      rw [← hV2]
      clear hV2 d4
      go_loopw [14, 16] (fun ov iv wr => ∃ (i : Nat) (ad : Option Addr) (co : Nat), iv = .int .i64 (i : Int) ∧ i ≤ E.length ∧ ov = .slice ad (outE z (E.take i)).length co ∧ OwnL Elt.ed 52 V2.heap.size V2.heap.size wr (.slice ad (outE z (E.take i)).length co) (outE z (E.take i)) ∧ Below V2.heap.size V2 wr) (fun _ iv _ => E.length - (intOf iv).toNat)
      case atStart => exact ⟨0, none, 0, rfl, Nat.zero_le _, rfl, OwnL.nil _ _ _ _ _, Below.refl _ _⟩
      case round =>
      obtain ⟨i, ad, co, rfl, hil, rfl, hO, q2⟩ := hrel
      rcases Nat.lt_or_ge i E.length with hlt | hge3
      · obtain ⟨p, off, ead, _, ck0, ck1, x64, y64⟩ := (h0.below (q.trans (q2.mono q.size))).ed i hlt
        subst ead
        have hsn := Lib.hid (outE_snoc (z := z) hlt)
        have hXl : (outE z (E.take i)).length ≤ 12 := Nat.le_trans (outE_len z _) (by rw [List.length_take]; omega)
        obtain ⟨⟨x, y⟩, exy⟩ : ∃ e, e = E[i] := ⟨_, rfl⟩
        rw [← exy] at ck0 ck1 x64 y64 hsn
        clear exy
        obtain ⟨xs, exs⟩ : ∃ xs, xs = outE z (E.take i) := ⟨_, rfl⟩
        rw [← exs] at hO hsn hXl
        rw [← exs]
        clear exs
        replace ck0 : wr.cell? ⟨p, off + i * 2, none⟩ = some (.int .i64 x) := ck0
        replace ck1 : wr.cell? ⟨p, off + i * 2 + 1, none⟩ = some (.int .i64 y) := ck1
        replace x64 : W64 x := x64
        replace y64 : W64 y := y64
        replace hsn := Lib.hid (show outE z (E.take (i + 1)) = xs ++ (if x ≠ (z : Int) then [(x, y)] else []) from hsn.out)
        have d0 : decide ((i : Int) < (E.length : Int)) = true := decide_eq_true (by omega)
        by_cases e : x = (z : Int)
        · have d1 : (x != (z : Int)) = false := by simp [e]
          have hs2 := Lib.hid (show outE z (E.take (i + 1)) = xs by rw [hsn.out, if_neg (fun h => h e), List.append_nil])
          clear hsn e
          go_wp2_with fail
          go_roundw
          case rel => exact ⟨i + 1, ad, co, by go_num, by omega, by rw [hs2.out], by rw [hs2.out]; exact hO, q2⟩
          case measure => simp [intOf]; omega
        · have d1 : (x != (z : Int)) = true := by simp [e]
          have hs2 := Lib.hid (show outE z (E.take (i + 1)) = xs ++ [(x, y)] by rw [hsn.out, if_pos e])
          clear hsn e
          have hrr : ∀ k, Value.ownBlock (.slice ad xs.length co) = some k → V2.heap.size ≤ k ∧ k < wr.heap.size := fun k hk => hO.block_lt k hk
          have hR : ∀ V, Elt.ed.R (fun k => V2.heap.size ≤ k ∧ k < V2.heap.size) V (x, y) [.int .i64 x, .int .i64 y] := fun V => ⟨rfl, x64, y64⟩
          have hSV : ∀ V : World, ∀ k, (V2.heap.size ≤ k ∧ k < V2.heap.size) → V2.heap.size ≤ k ∧ k < V.heap.size ∧ some k ≠ Value.ownBlock (.slice ad xs.length co) := fun V k hk => by omega
          have hbs : ∀ V : World, Below wr.heap.size wr V → V2.heap.size ≤ V.heap.size := fun V h => by have := h.size; have := q2.size; omega
          go_wp2_with (first
            | (refine wpList_buildOne edP rfl rfl rfl (us := [.int .i64 x, .int .i64 y]) rfl rfl (by decide) (by decide) ?_; intro w6 hb6 hrow)
            | (refine wpList_apvRow (E := Elt.ed) (n := xs.length + 1) edP rfl rfl rfl rfl (hO.below hb6) hrow (hR _) (hSV _) (hbs _ hb6) (by omega) rfl ?_; intro ad9 c9 w7 hO9 hg7 ho9)
            | fail)
          have hln : (xs ++ [(x, y)]).length = xs.length + 1 := by rw [List.length_append]; rfl
          have q9 : Below V2.heap.size V2 w7 := (q2.trans (hb6.mono q2.size)).grown hg7 (q2.trans (hb6.mono q2.size)).size fun k hk => (hrr k hk).1
          rw [← hln] at hO9
          clear hrr hR hSV hbs hg7 hO hrow hb6 ho9 ck0 ck1 d0 d1
          go_roundw
          case rel => exact ⟨i + 1, ad9, c9, by go_num, by omega, by rw [hs2.out, hln], by rw [hs2.out]; exact hO9, q9⟩
          case measure => simp [intOf]; omega
      · obtain rfl : i = E.length := by omega
        rw [List.take_length] at hO ⊢
        have d0 : decide ((E.length : Int) < (E.length : Int)) = false := decide_eq_false (by omega)
        have rO : RdL Elt.ed (fun _ => True) wr (.slice ad (outE z E).length co) (outE z E) := hO.rdS fun _ _ _ => trivial
        have rB3 := rB2.below q2
        have rC3 := rC2.below q2
        replace q := q.trans (q2.mono q.size)
        clear rB2 rC2 q2 hO
        have hzn := Lib.hid (show (z : Int) ∉ stuckL (outE z E) from outE_stuck z E)
        have hcl := stuck_any _ rO
        go_wp2_with fail
        refine hcl.mono ?_
        rintro e w8 ⟨aD, cD, rfl, hS, hb⟩
        have rD : RdL Elt.int (fun _ => True) w8 (.slice aD (stuckL (outE z E)).length cD) (stuckL (outE z E)) := hS.rdS fun _ _ _ => trivial
        clear hcl hS d0 rO
        replace rB3 := rB3.below hb
        replace rC3 := rC3.below hb
        replace q := q.trans (hb.mono q.size)
        clear hb
        obtain ⟨D, eD⟩ : ∃ l, l = stuckL (outE z E) := ⟨_, rfl⟩
        rw [← eD] at rD hzn
        rw [← eD]
        clear eD
        have hlD : D.length ≤ 9223372036854775807 := by obtain ⟨_, hc, hm⟩ := rD.len; unfold maxLen at hm; omega
        go_upto_region 28 with (fail)
        go_loopw [18] (fun iv wr => ∃ i : Nat, iv = .int .i64 (i : Int) ∧ i ≤ D.length ∧ Below w8.heap.size w8 wr) (fun iv _ => D.length - (intOf iv).toNat)
        case atStart => exact ⟨0, rfl, Nat.zero_le _, Below.refl _ _⟩
        case round =>
        obtain ⟨i, rfl, hil, q2⟩ := hrel
        rcases Nat.lt_or_ge i D.length with hlt4 | hge4
        · obtain ⟨p, off, ead, _, ck, _⟩ := (rD.below q2).num i hlt4
          subst ead
          have hm : D[i] ≠ (z : Int) := fun h => hzn.out (h ▸ List.getElem_mem hlt4)
          obtain ⟨x, ex⟩ : ∃ x, x = D[i] := ⟨_, rfl⟩
          rw [← ex] at ck hm
          clear ex
          have d0 : decide ((i : Int) < (D.length : Int)) = true := decide_eq_true (by omega)
          have d1 : (x == (z : Int)) = false := beq_eq_false_iff_ne.2 hm
          have d2 : decide (x = (z : Int)) = false := decide_eq_false hm
          clear hm
          go_wp2_with fail
          go_roundw
          case rel => exact ⟨i + 1, by go_num, by omega, q2⟩
          case measure => simp [intOf]; omega
        · obtain rfl : i = D.length := by omega
          have d0 : decide ((D.length : Int) < (D.length : Int)) = false := decide_eq_false (by omega)
          have hcl := numbers_any _ (rB3.below q2) (rC3.below q2)
          rw [decide_eq_true rfl] at hcl
          go_wp2_with fail
          refine hcl.mono ?_
          rintro e w9 ⟨rfl, hb⟩
          go_wp2_with fail
          go_ret
          exact ⟨rfl, (q.trans (q2.mono q.size)).trans (hb.mono (q.trans (q2.mono q.size)).size)⟩
end Go.Proofs.YtpdnehgboafgpaaDoor
namespace Go.Proofs.YtpdnehgboafgpaaDoor
open Go.RowKit Go.Shelf
theorem mem_take1 {l : List Int} {k : Nat} {x : Int} (h : k < l.length) : decide (x ∈ l.take (k + 1)) = (decide (x ∈ l.take k) || (l[k] == x)) := by
  rw [List.take_succ_eq_append_getElem h, Bool.eq_iff_iff]
  simp only [decide_eq_true_eq, List.mem_append, List.mem_singleton, Bool.or_eq_true, beq_iff_eq]
  exact ⟨fun h => h.imp id Eq.symm, fun h => h.imp id Eq.symm⟩
set_option maxRecDepth 100000 in
set_option maxHeartbeats 32000000 in
theorem WaitBreaks_w (w : World) (hT : TabAt w) {cs0 cs1 : Array Value} {d : List Lk × List Lk} {s : Nat → Int} (h0 : RdLs2 (· < w.heap.size) w (.agg cs0) d) (h1 : RdI4 (· < w.heap.size) w (.agg cs1) s) :
    Calls Tryd.prog 5 #[.agg cs0, .agg cs1] w fun e w' => e = .returned (.bool true) ∧ Below w.heap.size w w' := by
  obtain ⟨H, Q⟩ := d
  replace h0 : RdLs (· < w.heap.size) w (.agg cs0) H Q := h0
  have hd := h0
  obtain ⟨aH, cH, aQ, cQ, e, hH, hQ⟩ := h0
  injection e with e
  subst e
  clear hH hQ
  injection h1 with h1
  subst h1
  obtain ⟨W0, hW, q, Bl, Bs, hsz⟩ := boxes2 w 24 40 [.slice aH H.length cH, .slice aQ Q.length cQ] [.int .i64 (s 0), .int .i64 (s 1), .int .i64 (s 2), .int .i64 (s 3)]
  clear hsz
  go_enter Tryd.func5, Tryd.ntmps5
  go_upto_region 1 with (fail)
  rw [show (w.alloc (.cells #[.slice aH H.length cH, .slice aQ Q.length cQ] 24)).alloc (.cells #[.int .i64 (s 0), .int .i64 (s 1), .int .i64 (s 2), .int .i64 (s 3)] 40) = W0 from hW.symm]
  clear hW
  obtain ⟨bl, ebl⟩ : ∃ b, b = w.heap.size := ⟨_, rfl⟩
  have rK : RdLs (· ≠ bl) W0 (.agg #[.slice aH H.length cH, .slice aQ Q.length cQ]) H Q := (RdLs.below hd q).weak fun k hk => by omega
  have hbl : w.heap.size ≤ bl := by omega
  rw [← ebl] at Bl Bs
  rw [← ebl]
  clear ebl hd
  replace Bs : BoxN W0 (bl + 1) 40 (i4 s) := Bs
  go_wp2_with fail
  refine (awake12_any W0 (hT.below q)).mono ?_
  rintro e w1 ⟨rfl, hb⟩
  replace Bl := Bl.below hb Bl.lt
  replace Bs := Bs.below hb Bs.lt
  replace rK := rK.below hb
  replace q := q.trans (hb.mono q.size)
  clear hb
  have b0 := Bl.cell (i := 0) rfl
  have b1 := Bl.cell (i := 1) rfl
  have hcl := fewK_any _ rK
  go_wp2_with fail
  refine hcl.mono ?_
  rintro e wq1 ⟨rfl, hb⟩
  clear hcl b0 b1
  replace Bl := Bl.below hb Bl.lt
  replace Bs := Bs.below hb Bs.lt
  replace rK := rK.below hb
  replace q := q.trans (hb.mono q.size)
  clear hb
  by_cases hf : fewK H Q
  case neg =>
    rw [decide_eq_false hf]
    go_wp2_with fail
    go_ret
    exact ⟨rfl, q⟩
  rw [decide_eq_true hf]
  have hsH : smK H := ⟨by have := hf.1.1; omega, fun y hy => by have := hf.1.2 y hy; exact ⟨by omega, by omega⟩⟩
  have hsQ : smK Q := ⟨by have := hf.2.1; omega, fun y hy => by have := hf.2.2 y hy; exact ⟨by omega, by omega⟩⟩
  have hn : H.length + Q.length ≤ 120 := by have := hf.1.1; have := hf.2.1; omega
  have hc4 : cntB (stkB (edgesL H Q)) ≤ 4 - 0 := cnt_le _
  clear hf
  replace hsH := Lib.hid hsH
  replace hsQ := Lib.hid hsQ
  replace hc4 := Lib.hid hc4
  go_upto_region 5 with (fail)
  go_loopw [6] (fun iv wr => ∃ (i : Nat) (H Q : List Lk) (aH : Option Addr) (cH : Nat) (aQ : Option Addr) (cQ : Nat), iv = .int .i64 (i : Int) ∧ i ≤ 4 ∧ BoxN wr bl 24 [.slice aH H.length cH, .slice aQ Q.length cQ] ∧ BoxN wr (bl + 1) 40 (i4 s) ∧ RdLs (· ≠ bl) wr (.agg #[.slice aH H.length cH, .slice aQ Q.length cQ]) H Q ∧ smK H ∧ smK Q ∧ H.length + Q.length ≤ 120 ∧ cntB (stkB (edgesL H Q)) ≤ 4 - i ∧ Below w.heap.size w wr) (fun iv _ => 4 - (intOf iv).toNat)
  case atStart => exact ⟨0, H, Q, aH, cH, aQ, cQ, rfl, by omega, Bl, Bs, rK, hsH.out, hsQ.out, hn, hc4.out, q⟩
  case round =>
  clear Bl Bs rK hsH hsQ hn hc4 q
  obtain ⟨i, H, Q, aH, cH, aQ, cQ, rfl, hi4, Bl, Bs, rK, hsH, hsQ, hn, hc4, q⟩ := hrel
  replace hsH := Lib.hid hsH
  replace hsQ := Lib.hid hsQ
  replace hc4 := Lib.hid hc4
  rcases Nat.lt_or_ge i 4 with hlt4 | hge4
  · have d0 : decide ((i : Int) < 4) = true := decide_eq_true (by omega)
    have b0 := Bl.cell (i := 0) rfl
    have b1 := Bl.cell (i := 1) rfl
    have hcl := edges_any _ (hT.below q) rK (by omega) (by omega)
    go_wp2_with fail
    refine hcl.mono ?_
    rintro e xA ⟨ae, ce, rfl, hE, hb⟩
    have rE : RdL Elt.ed (fun _ => True) _ (.slice ae (edgesL H Q).length ce) (edgesL H Q) := hE.rdS fun _ _ _ => trivial
    clear hcl hE b0 b1
    replace Bl := Bl.below hb Bl.lt
    replace Bs := Bs.below hb Bs.lt
    replace rK := rK.below hb
    replace q := q.trans (hb.mono q.size)
    clear hb
    have hcl := stuck_any _ rE
    go_wp2_with fail
    refine hcl.mono ?_
    rintro e yA ⟨aS, cS, rfl, hS, hb⟩
    have rS : RdL Elt.int (fun _ => True) _ (.slice aS (stuckL (edgesL H Q)).length cS) (stuckL (edgesL H Q)) := hS.rdS fun _ _ _ => trivial
    clear hcl hS
    replace Bl := Bl.below hb Bl.lt
    replace Bs := Bs.below hb Bs.lt
    replace rK := rK.below hb
    replace rE := rE.below hb
    replace q := q.trans (hb.mono q.size)
    clear hb
    clear d0
    have i0 := Bs.cell (i := 0) rfl
    have i1 := Bs.cell (i := 1) rfl
    have i2 := Bs.cell (i := 2) rfl
    have i3 := Bs.cell (i := 3) rfl
    have hcl := victim_any _ rE s
    go_wp2_with fail
    refine hcl.mono ?_
    rintro e x2 ⟨hv, hb⟩
    clear hcl i0 i1 i2 i3
    replace Bl := Bl.below hb Bl.lt
    replace Bs := Bs.below hb Bs.lt
    replace rK := rK.below hb
    replace rE := rE.below hb
    replace rS := rS.below hb
    replace q := q.trans (hb.mono q.size)
    clear hb rE
    have hwt := Lib.hid (fun x (hx : x ∈ stuckL (edgesL H Q)) => stuck_waits hx)
    have hrg := Lib.hid (fun x (hx : x ∈ stuckL (edgesL H Q)) => stuck_range hx)
    have hdl := Lib.hid (fun v (hv : v ∈ stuckL (edgesL H Q)) => drop_less (H := H) (Q := Q) hv)
    unfold VicEnd at hv
    obtain ⟨l, el⟩ : ∃ l, l = stuckL (edgesL H Q) := ⟨_, rfl⟩
    rw [← el] at rS hwt hrg hdl hv
    rw [← el]
    clear el
    have hll : l.length ≤ 9223372036854775807 := by obtain ⟨_, hc, hm⟩ := rS.len; unfold maxLen at hm; omega
    rcases hv with ⟨hnil, rfl⟩ | ⟨v, hv, rfl⟩
    · have hz : l.length = 0 := by rw [hnil]; rfl
      have d1 : (0 < l.length) = False := eq_false (by omega)
      clear hnil hz
      go_wp2_with fail
      go_ret
      exact ⟨rfl, q⟩
    · have hvl : 0 < l.length := List.length_pos_of_mem hv.1
      have d1 : (0 < l.length) = True := eq_true (by omega)
      have hvr := hrg.out v hv.1
      obtain ⟨m, rfl, hm⟩ : ∃ m : Nat, v = (m : Int) ∧ m < 4 := ⟨v.toNat, by omega, by omega⟩
      clear hvr hvl
      replace hv := Lib.hid hv
      go_upto_region 16 with (fail)
      clear d1
      obtain ⟨V, hV⟩ : ∃ V, V = x2 := ⟨_, rfl⟩
      rw [← hV] at q Bl Bs rK rS
      rw [← hV]
      clear hV
      have tb := hT.below q
      go_loopw [11, 12] (fun bv kv wr => ∃ k : Nat, kv = .int .i64 (k : Int) ∧ k ≤ l.length ∧ bv = .bool (decide ((m : Int) ∈ l.take k)) ∧ Below V.heap.size V wr) (fun _ kv _ => l.length - (intOf kv).toNat)
      case atStart => exact ⟨0, rfl, Nat.zero_le _, by simp, Below.refl _ _⟩
      case round =>
      obtain ⟨k, rfl, hkl, rfl, q2⟩ := hrel
      rcases Nat.lt_or_ge k l.length with hlt | hge
      · have tb2 := tb.below q2
        have rS2 := rS.below q2
        have Bl2 := Bl.below q2 Bl.lt
        have Bs2 := Bs.below q2 Bs.lt
        have rK2 := rK.below q2
        obtain ⟨p, off, ead, _, ck, _⟩ := rS2.num k hlt
        subst ead
        have hx := hrg.out _ (List.getElem_mem hlt)
        have hw2 := hwt.out _ (List.getElem_mem hlt)
        have hvx := hv.out.2 _ (List.getElem_mem hlt)
        have hsn := Lib.hid (mem_take1 (x := (m : Int)) hlt)
        obtain ⟨x, ex⟩ : ∃ x, x = l[k] := ⟨_, rfl⟩
        rw [← ex] at ck hx hw2 hvx hsn
        clear ex
        obtain ⟨j, rfl, hj⟩ : ∃ j : Nat, x = (j : Int) ∧ j < 4 := ⟨x.toNat, by omega, by omega⟩
        have hst : ¬ s m < s j := by simp only [stI, Int.toNat_natCast] at hvx; omega
        have kW := fun (V3 : World) (hV3 : Below wr.heap.size wr V3) => lWaits_any V3 (o := (j : Int)) (tb2.below hV3) (rK2.below hV3) (by omega) (by omega)
        rw [show (decide (okLk H Q) && waitsL Q (j : Int)) = true by rw [decide_eq_true hw2.1, hw2.2]; rfl] at kW
        clear hx hw2 hvx
        obtain ⟨bk, ebk⟩ : ∃ b, b = decide ((m : Int) ∈ l.take k) := ⟨_, rfl⟩
        rw [← ebk] at hsn
        rw [← ebk]
        clear ebk
        have d0 : decide ((k : Int) < (l.length : Int)) = true := decide_eq_true (by omega)
        go_upto_region 18 with (fail)
        clear d0
        have eW : ∀ args w, (callFunc 18 args).run Tryd.prog w = .ok (.enter 18 args) w := enters_of Tryd.func18 (by kernel_rfl) rfl
        refine wp_region_gsg (by kernel_rfl) (by kernel_rfl) [sgEq (.slice (some ⟨p, off, none⟩) l.length cS), sgEq (.int .i64 (k : Nat)), sgEq (.pointer (some ⟨p, off + k, none⟩)), sgEq (.int .i64 (j : Nat)), sgEq (.bool false), sgEq (.bool false), sgEq (.slice (some ⟨p, off, none⟩) l.length cS), sgEq (.int .i64 (k : Nat)), sgEq (.pointer (some ⟨p, off + k, none⟩)), sgEq (.int .i64 (j : Nat)), sgEq (.bool false), sgEq (.bool false), sgEq (.bool false), sgEq (.int .i64 (m : Nat)), sgEq (.bool false), sgEq (.bool false), sgEq (.bool false), sgEq (.int .i64 (m : Nat)), sgEq (.bool false), sgEq (.bool false), sgEq (.bool false), sgEq (.slice (some ⟨p, off, none⟩) l.length cS), sgEq (.int .i64 (k : Nat)), sgEq (.pointer (some ⟨p, off + k, none⟩)), sgEq (.int .i64 (j : Nat)), sgEq (.pointer (some ⟨bl + 1, j, none⟩)), sgEq (.int .i64 (s j)), sgEq (.int .i64 (m : Nat)), sgEq (.pointer (some ⟨bl + 1, m, none⟩)), sgEq (.int .i64 (s m)), sgEq (.bool false), sgEq (.bool false), sgEq (.bool false), sgEq (.agg #[.slice aH H.length cH, .slice aQ Q.length cQ]), sgEq (.slice (some ⟨p, off, none⟩) l.length cS), sgEq (.int .i64 (k : Nat)), sgEq (.pointer (some ⟨p, off + k, none⟩)), sgEq (.int .i64 (j : Nat)), sgEq (.bool true), sgEq (.bool false), sgEq (.bool false)]
          ⟨?o0, ?o1, ?o2, ?o3, ?o4, ?o5, ?o6, ?o7, ?o8, ?o9, ?o10, ?o11, ?o12, ?o13, ?o14, ?o15, ?o16, ?o17, ?o18, ?o19, ?o20, ?o21, ?o22, ?o23, ?o24, ?o25, ?o26, ?o27, ?o28, ?o29, ?o30, ?o31, ?o32, ?o33, ?o34, ?o35, ?o36, ?o37, ?o38, ?o39, ?o40, trivial⟩ ?fin
        case o0 =>
          refine GdOp.plain rfl (fun A vs w' hF hT hb hd => ?_)
          have e1 : A.eval (.tmp 8) = .slice (some ⟨p, off, none⟩) l.length cS := hF 8 rfl
          exact BigFrame.wp_move _ rfl ⟨_, rfl, e1, Below.refl _ _⟩
        case o1 =>
          refine GdOp.plain rfl (fun A vs w' hF hT hb hd => ?_)
          have e1 : A.eval (.tmp 12) = .int .i64 (k : Nat) := hF 12 rfl
          exact BigFrame.wp_move _ rfl ⟨_, rfl, e1, Below.refl _ _⟩
        case o2 =>
          refine GdOp.plain rfl (fun A vs w' hF hT hb hd => ?_)
          have e1 : A.eval (.tmp 48) = .slice (some ⟨p, off, none⟩) l.length cS := (hT 48 0 (by simp) rfl).trans (hd ⟨0, .data⟩ (by simp) rfl)
          have e2 : A.eval (.tmp 49) = .int .i64 (k : Nat) := (hT 49 1 (by simp) rfl).trans (hd ⟨1, .data⟩ (by simp) rfl)
          exact wp_ix (e := 3) rfl (by kernel_rfl) (by kernel_rfl) e1 e2 rfl (by omega) ⟨_, rfl, rfl, Below.refl _ _⟩
        case o3 =>
          refine GdOp.plain rfl (fun A vs w' hF hT hb hd => ?_)
          have e1 : A.eval (.tmp 50) = .pointer (some ⟨p, off + k, none⟩) := (hT 50 2 (by simp) rfl).trans (hd ⟨2, .data⟩ (by simp) rfl)
          exact wp_ld_int (k := .i64) rfl e1 (by kernel_rfl) ((hb.cell (p := ⟨_, _, none⟩) (cell_lt ck)).trans ck) ⟨_, rfl, rfl, Below.refl _ _⟩
        case o4 =>
          refine GdOp.plain rfl (fun A vs w' hF hT hb hd => ?_)
          have e1 : A.eval (.tmp 51) = .int .i64 (j : Nat) := (hT 51 3 (by simp) rfl).trans (hd ⟨3, .data⟩ (by simp) rfl)
          exact wp_lssI rfl e1 rfl ⟨_, rfl, congrArg Value.bool (decide_eq_false (by omega)), Below.refl _ _⟩
        case o5 =>
          refine GdOp.plain rfl (fun A vs w' hF hT hb hd => ?_)
          have e1 : A.eval (.tmp 52) = .bool false := (hT 52 4 (by simp) rfl).trans (hd ⟨4, .data⟩ (by simp) rfl)
          exact BigFrame.wp_move _ rfl ⟨_, rfl, e1, Below.refl _ _⟩
        case o6 =>
          refine GdOp.taken rfl ⟨_, _, rfl, rfl, by simp⟩ (by kernel_rfl) (fun w v h => h) (fun A vs w' hF hT hb hd => ?_)
          have e1 : A.eval (.tmp 8) = .slice (some ⟨p, off, none⟩) l.length cS := hF 8 rfl
          exact BigFrame.wp_move _ rfl ⟨_, rfl, e1, Below.refl _ _⟩
        case o7 =>
          refine GdOp.taken rfl ⟨_, _, rfl, rfl, by simp⟩ (by kernel_rfl) (fun w v h => h) (fun A vs w' hF hT hb hd => ?_)
          have e1 : A.eval (.tmp 12) = .int .i64 (k : Nat) := hF 12 rfl
          exact BigFrame.wp_move _ rfl ⟨_, rfl, e1, Below.refl _ _⟩
        case o8 =>
          refine GdOp.taken rfl ⟨_, _, rfl, rfl, by simp⟩ (by kernel_rfl) (fun w v h => h) (fun A vs w' hF hT hb hd => ?_)
          have e1 : A.eval (.tmp 54) = .slice (some ⟨p, off, none⟩) l.length cS := (hT 54 6 (by simp) rfl).trans (hd ⟨6, .data⟩ (by simp) rfl)
          have e2 : A.eval (.tmp 55) = .int .i64 (k : Nat) := (hT 55 7 (by simp) rfl).trans (hd ⟨7, .data⟩ (by simp) rfl)
          exact wp_ix (e := 3) rfl (by kernel_rfl) (by kernel_rfl) e1 e2 rfl (by omega) ⟨_, rfl, rfl, Below.refl _ _⟩
        case o9 =>
          refine GdOp.taken rfl ⟨_, _, rfl, rfl, by simp⟩ (by kernel_rfl) (fun w v h => h) (fun A vs w' hF hT hb hd => ?_)
          have e1 : A.eval (.tmp 56) = .pointer (some ⟨p, off + k, none⟩) := (hT 56 8 (by simp) rfl).trans (hd ⟨8, .data⟩ (by simp) rfl)
          exact wp_ld_int (k := .i64) rfl e1 (by kernel_rfl) ((hb.cell (p := ⟨_, _, none⟩) (cell_lt ck)).trans ck) ⟨_, rfl, rfl, Below.refl _ _⟩
        case o10 =>
          refine GdOp.taken rfl ⟨_, _, rfl, rfl, by simp⟩ (by kernel_rfl) (fun w v h => h) (fun A vs w' hF hT hb hd => ?_)
          have e1 : A.eval (.tmp 57) = .int .i64 (j : Nat) := (hT 57 9 (by simp) rfl).trans (hd ⟨9, .data⟩ (by simp) rfl)
          exact wp_gtrI rfl e1 rfl ⟨_, rfl, congrArg Value.bool (decide_eq_false (by omega)), Below.refl _ _⟩
        case o11 =>
          refine GdOp.plain rfl (fun A vs w' hF hT hb hd => ?_)
          have e1 : A.eval (.tmp 53) = .bool false := (hT 53 5 (by simp) rfl).trans (hd ⟨5, .data⟩ (by simp) rfl)
          have e3 : A.eval (.tmp 58) = .bool false := (hT 58 10 (by simp) rfl).trans (hd ⟨10, .data⟩ (by simp) rfl)
          exact wp_pk rfl e1 (by simp) (fun _ => e3) ⟨_, rfl, rfl, Below.refl _ _⟩
        case o12 =>
          refine GdOp.plain rfl (fun A vs w' hF hT hb hd => ?_)
          have e1 : A.eval (.tmp 59) = .bool false := (hT 59 11 (by simp) rfl).trans (hd ⟨11, .data⟩ (by simp) rfl)
          exact BigFrame.wp_move _ rfl ⟨_, rfl, e1, Below.refl _ _⟩
        case o13 =>
          refine GdOp.taken rfl ⟨_, _, rfl, rfl, by simp⟩ (by kernel_rfl) (fun w v h => h) (fun A vs w' hF hT hb hd => ?_)
          have e1 : A.eval (.tmp 9) = .int .i64 (m : Nat) := hF 9 rfl
          exact BigFrame.wp_move _ rfl ⟨_, rfl, e1, Below.refl _ _⟩
        case o14 =>
          refine GdOp.taken rfl ⟨_, _, rfl, rfl, by simp⟩ (by kernel_rfl) (fun w v h => h) (fun A vs w' hF hT hb hd => ?_)
          have e1 : A.eval (.tmp 61) = .int .i64 (m : Nat) := (hT 61 13 (by simp) rfl).trans (hd ⟨13, .data⟩ (by simp) rfl)
          exact wp_lssI rfl e1 rfl ⟨_, rfl, congrArg Value.bool (decide_eq_false (by omega)), Below.refl _ _⟩
        case o15 =>
          refine GdOp.plain rfl (fun A vs w' hF hT hb hd => ?_)
          have e1 : A.eval (.tmp 60) = .bool false := (hT 60 12 (by simp) rfl).trans (hd ⟨12, .data⟩ (by simp) rfl)
          have e3 : A.eval (.tmp 62) = .bool false := (hT 62 14 (by simp) rfl).trans (hd ⟨14, .data⟩ (by simp) rfl)
          exact wp_pk rfl e1 (by simp) (fun _ => e3) ⟨_, rfl, rfl, Below.refl _ _⟩
        case o16 =>
          refine GdOp.plain rfl (fun A vs w' hF hT hb hd => ?_)
          have e1 : A.eval (.tmp 63) = .bool false := (hT 63 15 (by simp) rfl).trans (hd ⟨15, .data⟩ (by simp) rfl)
          exact BigFrame.wp_move _ rfl ⟨_, rfl, e1, Below.refl _ _⟩
        case o17 =>
          refine GdOp.taken rfl ⟨_, _, rfl, rfl, by simp⟩ (by kernel_rfl) (fun w v h => h) (fun A vs w' hF hT hb hd => ?_)
          have e1 : A.eval (.tmp 9) = .int .i64 (m : Nat) := hF 9 rfl
          exact BigFrame.wp_move _ rfl ⟨_, rfl, e1, Below.refl _ _⟩
        case o18 =>
          refine GdOp.taken rfl ⟨_, _, rfl, rfl, by simp⟩ (by kernel_rfl) (fun w v h => h) (fun A vs w' hF hT hb hd => ?_)
          have e1 : A.eval (.tmp 65) = .int .i64 (m : Nat) := (hT 65 17 (by simp) rfl).trans (hd ⟨17, .data⟩ (by simp) rfl)
          exact wp_gtrI rfl e1 rfl ⟨_, rfl, congrArg Value.bool (decide_eq_false (by omega)), Below.refl _ _⟩
        case o19 =>
          refine GdOp.plain rfl (fun A vs w' hF hT hb hd => ?_)
          have e1 : A.eval (.tmp 64) = .bool false := (hT 64 16 (by simp) rfl).trans (hd ⟨16, .data⟩ (by simp) rfl)
          have e3 : A.eval (.tmp 66) = .bool false := (hT 66 18 (by simp) rfl).trans (hd ⟨18, .data⟩ (by simp) rfl)
          exact wp_pk rfl e1 (by simp) (fun _ => e3) ⟨_, rfl, rfl, Below.refl _ _⟩
        case o20 =>
          refine GdOp.plain rfl (fun A vs w' hF hT hb hd => ?_)
          have e1 : A.eval (.tmp 67) = .bool false := (hT 67 19 (by simp) rfl).trans (hd ⟨19, .data⟩ (by simp) rfl)
          exact BigFrame.wp_move _ rfl ⟨_, rfl, e1, Below.refl _ _⟩
        case o21 =>
          refine GdOp.taken rfl ⟨_, _, rfl, rfl, by simp⟩ (by kernel_rfl) (fun w v h => h) (fun A vs w' hF hT hb hd => ?_)
          have e1 : A.eval (.tmp 8) = .slice (some ⟨p, off, none⟩) l.length cS := hF 8 rfl
          exact BigFrame.wp_move _ rfl ⟨_, rfl, e1, Below.refl _ _⟩
        case o22 =>
          refine GdOp.taken rfl ⟨_, _, rfl, rfl, by simp⟩ (by kernel_rfl) (fun w v h => h) (fun A vs w' hF hT hb hd => ?_)
          have e1 : A.eval (.tmp 12) = .int .i64 (k : Nat) := hF 12 rfl
          exact BigFrame.wp_move _ rfl ⟨_, rfl, e1, Below.refl _ _⟩
        case o23 =>
          refine GdOp.taken rfl ⟨_, _, rfl, rfl, by simp⟩ (by kernel_rfl) (fun w v h => h) (fun A vs w' hF hT hb hd => ?_)
          have e1 : A.eval (.tmp 69) = .slice (some ⟨p, off, none⟩) l.length cS := (hT 69 21 (by simp) rfl).trans (hd ⟨21, .data⟩ (by simp) rfl)
          have e2 : A.eval (.tmp 70) = .int .i64 (k : Nat) := (hT 70 22 (by simp) rfl).trans (hd ⟨22, .data⟩ (by simp) rfl)
          exact wp_ix (e := 3) rfl (by kernel_rfl) (by kernel_rfl) e1 e2 rfl (by omega) ⟨_, rfl, rfl, Below.refl _ _⟩
        case o24 =>
          refine GdOp.taken rfl ⟨_, _, rfl, rfl, by simp⟩ (by kernel_rfl) (fun w v h => h) (fun A vs w' hF hT hb hd => ?_)
          have e1 : A.eval (.tmp 71) = .pointer (some ⟨p, off + k, none⟩) := (hT 71 23 (by simp) rfl).trans (hd ⟨23, .data⟩ (by simp) rfl)
          exact wp_ld_int (k := .i64) rfl e1 (by kernel_rfl) ((hb.cell (p := ⟨_, _, none⟩) (cell_lt ck)).trans ck) ⟨_, rfl, rfl, Below.refl _ _⟩
        case o25 =>
          refine GdOp.taken rfl ⟨_, _, rfl, rfl, by simp⟩ (by kernel_rfl) (fun w v h => h) (fun A vs w' hF hT hb hd => ?_)
          have e1 : A.eval (.tmp 3) = .pointer (some ⟨bl + 1, 0, none⟩) := hF 3 rfl
          have e2 : A.eval (.tmp 72) = .int .i64 (j : Nat) := (hT 72 24 (by simp) rfl).trans (hd ⟨24, .data⟩ (by simp) rfl)
          exact wp_ixA (e := 3) (sz := 1) (by kernel_rfl) (by kernel_rfl) rfl (e1) (e2) rfl hj (by omega) ⟨_, rfl, rfl, Below.refl _ _⟩
        case o26 =>
          refine GdOp.taken rfl ⟨_, _, rfl, rfl, by simp⟩ (by kernel_rfl) (fun w v h => h) (fun A vs w' hF hT hb hd => ?_)
          have e1 : A.eval (.tmp 73) = .pointer (some ⟨bl + 1, j, none⟩) := (hT 73 25 (by simp) rfl).trans (hd ⟨25, .data⟩ (by simp) rfl)
          exact wp_ld_int (k := .i64) rfl e1 (by kernel_rfl) ((Bs2.below hb Bs2.lt).cell (i4_at s hj)) ⟨_, rfl, rfl, Below.refl _ _⟩
        case o27 =>
          refine GdOp.taken rfl ⟨_, _, rfl, rfl, by simp⟩ (by kernel_rfl) (fun w v h => h) (fun A vs w' hF hT hb hd => ?_)
          have e1 : A.eval (.tmp 9) = .int .i64 (m : Nat) := hF 9 rfl
          exact BigFrame.wp_move _ rfl ⟨_, rfl, e1, Below.refl _ _⟩
        case o28 =>
          refine GdOp.taken rfl ⟨_, _, rfl, rfl, by simp⟩ (by kernel_rfl) (fun w v h => h) (fun A vs w' hF hT hb hd => ?_)
          have e1 : A.eval (.tmp 3) = .pointer (some ⟨bl + 1, 0, none⟩) := hF 3 rfl
          have e2 : A.eval (.tmp 75) = .int .i64 (m : Nat) := (hT 75 27 (by simp) rfl).trans (hd ⟨27, .data⟩ (by simp) rfl)
          exact wp_ixA (e := 3) (sz := 1) (by kernel_rfl) (by kernel_rfl) rfl (e1) (e2) rfl hm (by omega) ⟨_, rfl, rfl, Below.refl _ _⟩
        case o29 =>
          refine GdOp.taken rfl ⟨_, _, rfl, rfl, by simp⟩ (by kernel_rfl) (fun w v h => h) (fun A vs w' hF hT hb hd => ?_)
          have e1 : A.eval (.tmp 76) = .pointer (some ⟨bl + 1, m, none⟩) := (hT 76 28 (by simp) rfl).trans (hd ⟨28, .data⟩ (by simp) rfl)
          exact wp_ld_int (k := .i64) rfl e1 (by kernel_rfl) ((Bs2.below hb Bs2.lt).cell (i4_at s hm)) ⟨_, rfl, rfl, Below.refl _ _⟩
        case o30 =>
          refine GdOp.taken rfl ⟨_, _, rfl, rfl, by simp⟩ (by kernel_rfl) (fun w v h => h) (fun A vs w' hF hT hb hd => ?_)
          have e1 : A.eval (.tmp 74) = .int .i64 (s j) := (hT 74 26 (by simp) rfl).trans (hd ⟨26, .data⟩ (by simp) rfl)
          have e2 : A.eval (.tmp 77) = .int .i64 (s m) := (hT 77 29 (by simp) rfl).trans (hd ⟨29, .data⟩ (by simp) rfl)
          exact wp_gtrI rfl e1 e2 ⟨_, rfl, congrArg Value.bool (decide_eq_false hst), Below.refl _ _⟩
        case o31 =>
          refine GdOp.plain rfl (fun A vs w' hF hT hb hd => ?_)
          have e1 : A.eval (.tmp 68) = .bool false := (hT 68 20 (by simp) rfl).trans (hd ⟨20, .data⟩ (by simp) rfl)
          have e3 : A.eval (.tmp 78) = .bool false := (hT 78 30 (by simp) rfl).trans (hd ⟨30, .data⟩ (by simp) rfl)
          exact wp_pk rfl e1 (by simp) (fun _ => e3) ⟨_, rfl, rfl, Below.refl _ _⟩
        case o32 =>
          refine GdOp.plain rfl (fun A vs w' hF hT hb hd => ?_)
          have e1 : A.eval (.tmp 79) = .bool false := (hT 79 31 (by simp) rfl).trans (hd ⟨31, .data⟩ (by simp) rfl)
          exact BigFrame.wp_move _ rfl ⟨_, rfl, e1, Below.refl _ _⟩
        case o33 =>
          refine GdOp.taken rfl ⟨_, _, rfl, rfl, by simp⟩ (by kernel_rfl) (fun w v h => h) (fun A vs w' hF hT hb hd => ?_)
          have e1 : A.eval (.tmp 2) = .pointer (some ⟨bl, 0, none⟩) := hF 2 rfl
          exact wp_loadU (us := [.slice aH H.length cH, .slice aQ Q.length cQ]) lsS2 rfl e1 (fun j u hj => by rw [Nat.zero_add]; exact (Bl2.below hb Bl2.lt).cell hj) ⟨_, rfl, rfl, Below.refl _ _⟩
        case o34 =>
          refine GdOp.taken rfl ⟨_, _, rfl, rfl, by simp⟩ (by kernel_rfl) (fun w v h => h) (fun A vs w' hF hT hb hd => ?_)
          have e1 : A.eval (.tmp 8) = .slice (some ⟨p, off, none⟩) l.length cS := hF 8 rfl
          exact BigFrame.wp_move _ rfl ⟨_, rfl, e1, Below.refl _ _⟩
        case o35 =>
          refine GdOp.taken rfl ⟨_, _, rfl, rfl, by simp⟩ (by kernel_rfl) (fun w v h => h) (fun A vs w' hF hT hb hd => ?_)
          have e1 : A.eval (.tmp 12) = .int .i64 (k : Nat) := hF 12 rfl
          exact BigFrame.wp_move _ rfl ⟨_, rfl, e1, Below.refl _ _⟩
        case o36 =>
          refine GdOp.taken rfl ⟨_, _, rfl, rfl, by simp⟩ (by kernel_rfl) (fun w v h => h) (fun A vs w' hF hT hb hd => ?_)
          have e1 : A.eval (.tmp 82) = .slice (some ⟨p, off, none⟩) l.length cS := (hT 82 34 (by simp) rfl).trans (hd ⟨34, .data⟩ (by simp) rfl)
          have e2 : A.eval (.tmp 83) = .int .i64 (k : Nat) := (hT 83 35 (by simp) rfl).trans (hd ⟨35, .data⟩ (by simp) rfl)
          exact wp_ix (e := 3) rfl (by kernel_rfl) (by kernel_rfl) e1 e2 rfl (by omega) ⟨_, rfl, rfl, Below.refl _ _⟩
        case o37 =>
          refine GdOp.taken rfl ⟨_, _, rfl, rfl, by simp⟩ (by kernel_rfl) (fun w v h => h) (fun A vs w' hF hT hb hd => ?_)
          have e1 : A.eval (.tmp 84) = .pointer (some ⟨p, off + k, none⟩) := (hT 84 36 (by simp) rfl).trans (hd ⟨36, .data⟩ (by simp) rfl)
          exact wp_ld_int (k := .i64) rfl e1 (by kernel_rfl) ((hb.cell (p := ⟨_, _, none⟩) (cell_lt ck)).trans ck) ⟨_, rfl, rfl, Below.refl _ _⟩
        case o38 =>
          refine GdOp.taken rfl ⟨_, _, rfl, rfl, by simp⟩ (by kernel_rfl) (fun w v h => h) (fun A vs w' hF hT hb hd => ?_)
          have e1 : A.eval (.tmp 81) = .agg #[.slice aH H.length cH, .slice aQ Q.length cQ] := (hT 81 33 (by simp) rfl).trans (hd ⟨33, .data⟩ (by simp) rfl)
          have e2 : A.eval (.tmp 85) = .int .i64 (j : Nat) := (hT 85 37 (by simp) rfl).trans (hd ⟨37, .data⟩ (by simp) rfl)
          refine wp_callFn rfl eW (args := #[.agg #[.slice aH H.length cH, .slice aQ Q.length cQ], .int .i64 (j : Nat)]) (by simp only [List.map_toArray, List.map_cons, List.map_nil, e1, e2]) ((kW w' hb).mono ?_)
          rintro e w2 ⟨rfl, hb2⟩
          exact ⟨_, rfl, _, rfl, rfl, hb2⟩
        case o39 =>
          refine GdOp.taken rfl ⟨_, _, rfl, rfl, by simp⟩ (by kernel_rfl) (fun w v h => h) (fun A vs w' hF hT hb hd => ?_)
          have e1 : A.eval (.tmp 86) = .bool true := (hT 86 38 (by simp) rfl).trans (hd ⟨38, .data⟩ (by simp) rfl)
          exact wp_notB rfl e1 ⟨_, rfl, rfl, Below.refl _ _⟩
        case o40 =>
          refine GdOp.plain rfl (fun A vs w' hF hT hb hd => ?_)
          have e1 : A.eval (.tmp 80) = .bool false := (hT 80 32 (by simp) rfl).trans (hd ⟨32, .data⟩ (by simp) rfl)
          have e3 : A.eval (.tmp 87) = .bool false := (hT 87 39 (by simp) rfl).trans (hd ⟨39, .data⟩ (by simp) rfl)
          exact wp_pk rfl e1 (by simp) (fun _ => e3) ⟨_, rfl, rfl, Below.refl _ _⟩
        case fin =>
        intro vs9 W9 hb9 hG9
        have e0 : vs9 0 = .slice (some ⟨p, off, none⟩) l.length cS := hG9 0 (by decide)
        have e1 : vs9 1 = .int .i64 (k : Nat) := hG9 1 (by decide)
        have e2 : vs9 2 = .pointer (some ⟨p, off + k, none⟩) := hG9 2 (by decide)
        have e3 : vs9 3 = .int .i64 (j : Nat) := hG9 3 (by decide)
        have e4 : vs9 4 = .bool false := hG9 4 (by decide)
        have e5 : vs9 5 = .bool false := hG9 5 (by decide)
        have e6 : vs9 6 = .slice (some ⟨p, off, none⟩) l.length cS := hG9 6 (by decide)
        have e7 : vs9 7 = .int .i64 (k : Nat) := hG9 7 (by decide)
        have e8 : vs9 8 = .pointer (some ⟨p, off + k, none⟩) := hG9 8 (by decide)
        have e9 : vs9 9 = .int .i64 (j : Nat) := hG9 9 (by decide)
        have e10 : vs9 10 = .bool false := hG9 10 (by decide)
        have e11 : vs9 11 = .bool false := hG9 11 (by decide)
        have e12 : vs9 12 = .bool false := hG9 12 (by decide)
        have e13 : vs9 13 = .int .i64 (m : Nat) := hG9 13 (by decide)
        have e14 : vs9 14 = .bool false := hG9 14 (by decide)
        have e15 : vs9 15 = .bool false := hG9 15 (by decide)
        have e16 : vs9 16 = .bool false := hG9 16 (by decide)
        have e17 : vs9 17 = .int .i64 (m : Nat) := hG9 17 (by decide)
        have e18 : vs9 18 = .bool false := hG9 18 (by decide)
        have e19 : vs9 19 = .bool false := hG9 19 (by decide)
        have e20 : vs9 20 = .bool false := hG9 20 (by decide)
        have e21 : vs9 21 = .slice (some ⟨p, off, none⟩) l.length cS := hG9 21 (by decide)
        have e22 : vs9 22 = .int .i64 (k : Nat) := hG9 22 (by decide)
        have e23 : vs9 23 = .pointer (some ⟨p, off + k, none⟩) := hG9 23 (by decide)
        have e24 : vs9 24 = .int .i64 (j : Nat) := hG9 24 (by decide)
        have e25 : vs9 25 = .pointer (some ⟨bl + 1, j, none⟩) := hG9 25 (by decide)
        have e26 : vs9 26 = .int .i64 (s j) := hG9 26 (by decide)
        have e27 : vs9 27 = .int .i64 (m : Nat) := hG9 27 (by decide)
        have e28 : vs9 28 = .pointer (some ⟨bl + 1, m, none⟩) := hG9 28 (by decide)
        have e29 : vs9 29 = .int .i64 (s m) := hG9 29 (by decide)
        have e30 : vs9 30 = .bool false := hG9 30 (by decide)
        have e31 : vs9 31 = .bool false := hG9 31 (by decide)
        have e32 : vs9 32 = .bool false := hG9 32 (by decide)
        have e33 : vs9 33 = .agg #[.slice aH H.length cH, .slice aQ Q.length cQ] := hG9 33 (by decide)
        have e34 : vs9 34 = .slice (some ⟨p, off, none⟩) l.length cS := hG9 34 (by decide)
        have e35 : vs9 35 = .int .i64 (k : Nat) := hG9 35 (by decide)
        have e36 : vs9 36 = .pointer (some ⟨p, off + k, none⟩) := hG9 36 (by decide)
        have e37 : vs9 37 = .int .i64 (j : Nat) := hG9 37 (by decide)
        have e38 : vs9 38 = .bool true := hG9 38 (by decide)
        have e39 : vs9 39 = .bool false := hG9 39 (by decide)
        have e40 : vs9 40 = .bool false := hG9 40 (by decide)
        simp only [putAll, e0, e1, e2, e3, e4, e5, e6, e7, e8, e9, e10, e11, e12, e13, e14, e15, e16, e17, e18, e19, e20, e21, e22, e23, e24, e25, e26, e27, e28, e29, e30, e31, e32, e33, e34, e35, e36, e37, e38, e39, e40]
        clear hG9 e0 e1 e2 e3 e4 e5 e6 e7 e8 e9 e10 e11 e12 e13 e14 e15 e16 e17 e18 e19 e20 e21 e22 e23 e24 e25 e26 e27 e28 e29 e30 e31 e32 e33 e34 e35 e36 e37 e38 e39 e40
        replace q2 := q2.trans (hb9.mono q2.size)
        replace ck := (hb9.cell (p := ⟨_, _, none⟩) (cell_lt ck)).trans ck
        clear hb9 tb2 rS2 Bl2 Bs2 rK2 kW hst eW
        go_simp
        by_cases e : (j : Int) = (m : Int)
        · have d2 : ((j : Int) == (m : Int)) = true := beq_iff_eq.2 e
          have hs2 := Lib.hid (show decide ((m : Int) ∈ l.take (k + 1)) = (bk || true) from hsn.out.trans (by rw [d2]))
          clear hsn e
          cases bk with
          | true =>
            go_wp2_with fail
            go_roundw
            case rel => exact ⟨k + 1, by go_num, by omega, by rw [hs2.out]; rfl, q2⟩
            case measure => simp [intOf]; omega
          | false =>
            go_wp2_with fail
            go_roundw
            case rel => exact ⟨k + 1, by go_num, by omega, by rw [hs2.out]; rfl, q2⟩
            case measure => simp [intOf]; omega
        · have d2 : ((j : Int) == (m : Int)) = false := beq_eq_false_iff_ne.2 e
          have hs2 := Lib.hid (show decide ((m : Int) ∈ l.take (k + 1)) = (bk || false) from hsn.out.trans (by rw [d2]))
          clear hsn e
          cases bk with
          | true =>
            go_wp2_with fail
            go_roundw
            case rel => exact ⟨k + 1, by go_num, by omega, by rw [hs2.out]; rfl, q2⟩
            case measure => simp [intOf]; omega
          | false =>
            go_wp2_with fail
            go_roundw
            case rel => exact ⟨k + 1, by go_num, by omega, by rw [hs2.out]; rfl, q2⟩
            case measure => simp [intOf]; omega
      · obtain rfl : k = l.length := by omega
        rw [List.take_length, decide_eq_true hv.out.1]
        have d0 : decide ((l.length : Int) < (l.length : Int)) = false := decide_eq_false (by omega)
        replace Bl := Bl.below q2 Bl.lt
        replace Bs := Bs.below q2 Bs.lt
        replace rK := rK.below q2
        replace q := q.trans (q2.mono q.size)
        clear rS q2 tb
        have b0 := Bl.cell (i := 0) rfl
        have b1 := Bl.cell (i := 1) rfl
        have hcl := lDrop_any _ (hT.below q) (o := (m : Int)) rK hsH.out hsQ.out (by omega) (by omega)
        have hle := drop_len H Q (m : Int)
        have hls := hdl.out _ hv.out.1
        have hall := drop_all (o := (m : Int)) (fun y : Lk => y.span.lo.length ≤ 1000000 ∧ y.span.hi.length ≤ 1000000) hsH.out.2 hsQ.out.2
        obtain ⟨⟨rH, rQ, rl⟩, er⟩ : ∃ r, r = dropC H Q (m : Int) := ⟨_, rfl⟩
        rw [← er] at hcl hle hls hall
        clear er
        replace hle : rH.length + rQ.length ≤ H.length + Q.length := hle
        replace hls := Lib.hid (show cntB (stkB (edgesL rH rQ)) < cntB (stkB (edgesL H Q)) from hls)
        have hsH2 := Lib.hid (show smK rH from ⟨by omega, hall.1⟩)
        have hsQ2 := Lib.hid (show smK rQ from ⟨by omega, hall.2⟩)
        clear hall
        go_wp2_with fail
        refine hcl.mono ?_
        rintro e v1 ⟨ra, rc, ra2, rc2, ra3, rc3, rfl, hrd, _, hb⟩
        clear hcl b0 b1 d0
        have hblt := Bl.lt
        replace hrd : RdLs (· ≠ bl) v1 (.agg #[.slice ra rH.length rc, .slice ra2 rQ.length rc2]) rH rQ := hrd.weak fun k hk => by omega
        replace Bl := Bl.below hb Bl.lt
        replace Bs := Bs.below hb Bs.lt
        replace rK := rK.below hb
        replace q := q.trans (hb.mono q.size)
        clear hb hblt
        go_upto_region 24 with (first | (refine wpList_boxNew (vs := [.slice none 0 0, .slice none 0 0]) (by kernel_rfl) rfl rfl ?_; intro wa hba hBa) | (refine wpList_boxStore (us := [.slice ra rH.length rc, .slice ra2 rQ.length rc2]) (by kernel_rfl) rfl rfl rfl rfl rfl rfl hBa rfl ?_; intro v2 hgw Br) | fail)
        try go_simp
        have hbw := hba.grown hgw hba.size fun k hk => by injection hk with hk; omega
        replace Bl := Bl.below hbw Bl.lt
        replace Bs := Bs.below hbw Bs.lt
        replace rK := rK.below hbw
        replace hrd := hrd.below hbw
        replace q := q.trans (hbw.mono q.size)
        clear hbw hgw hba hBa
        have r0 := Br.cell (i := 0) rfl
        have r1 := Br.cell (i := 1) rfl
        go_wp2_with (first | (refine wpList_boxStore (us := [.slice ra rH.length rc, .slice ra2 rQ.length rc2]) (by kernel_rfl) rfl rfl rfl rfl rfl rfl Bl rfl ?_; intro v3 hg3 Bn) | fail)
        have Bs3 := Bs.other hg3 fun e => by injection e with e; omega
        have rK3 : RdLs (· ≠ bl) v3 (.agg #[.slice ra rH.length rc, .slice ra2 rQ.length rc2]) rH rQ := RdLs.past hrd hg3
        have q3 := q.grown hg3 q.size fun k hk => by injection hk with hk; omega
        clear hg3 Bl Bs rK hrd q Br r0 r1
        go_roundw
        case rel => exact ⟨i + 1, rH, rQ, ra, rc, ra2, rc2, by go_num, by omega, Bn, Bs3, rK3, hsH2.out, hsQ2.out, by omega, by have := hls.out; have := hc4.out; omega, q3⟩
        case measure => simp [intOf]; omega
  · obtain rfl : i = 4 := by omega
    have hnone := Lib.hid (show stuckL (edgesL H Q) = [] from cntB_none (by have := hc4.out; omega))
    have b0 := Bl.cell (i := 0) rfl
    have b1 := Bl.cell (i := 1) rfl
    have hcl := edges_any _ (hT.below q) rK (by omega) (by omega)
    go_wp2_with fail
    refine hcl.mono ?_
    rintro e xA ⟨ae, ce, rfl, hE, hb⟩
    have rE : RdL Elt.ed (fun _ => True) _ (.slice ae (edgesL H Q).length ce) (edgesL H Q) := hE.rdS fun _ _ _ => trivial
    clear hcl hE b0 b1
    replace Bl := Bl.below hb Bl.lt
    replace Bs := Bs.below hb Bs.lt
    replace rK := rK.below hb
    replace q := q.trans (hb.mono q.size)
    clear hb
    have hcl := stuck_any _ rE
    go_wp2_with fail
    refine hcl.mono ?_
    rintro e yA ⟨aS, cS, rfl, _, hb⟩
    rw [hnone.out]
    clear hcl rE
    replace Bl := Bl.below hb Bl.lt
    replace Bs := Bs.below hb Bs.lt
    replace rK := rK.below hb
    replace q := q.trans (hb.mono q.size)
    clear hb
    go_wp2_with fail
    go_ret
    exact ⟨rfl, q⟩
end Go.Proofs.YtpdnehgboafgpaaDoor
