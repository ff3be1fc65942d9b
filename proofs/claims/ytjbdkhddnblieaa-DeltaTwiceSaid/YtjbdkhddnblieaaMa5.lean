/-
  TEXTS OF ONE PROOF, merged: DltJ, DltK, Cpy, Apv, DltN, DltR, DltS, DltT, DltU.
-/
import Derived.Laws.CopyRow
import Derived.LoopIn
import Derived.LoopNIn
import Derived.TacticsInMore
import Derived.Test.YtjbdkhddnblieaaMa4
namespace Go.Proofs.Ytjbdkhddnblieaa
open Go.RowKit Go.Shelf
attribute [local go_sem] Oper.semAt_some
structure WrAt (w0 : World) where
  i : Nat
  t : Wr
  KA : Option Addr
  KC : Nat
  VA : Option Addr
  VC : Nat
  rk : RdS (· < w0.heap.size) w0 (.slice KA t.key.length KC) t.key
  rv : RdS (· < w0.heap.size) w0 (.slice VA t.val.length VC) t.val
  ht : W64 t.table
  hk : t.key.length ≤ 1000000
  hv : t.val.length ≤ 1000000
def WrAt.val {w0 : World} (x : WrAt w0) : Value := .agg #[.int .i64 x.t.table, .slice x.KA x.t.key.length x.KC, .bool x.t.gone, .slice x.VA x.t.val.length x.VC]
def WrAt.enc {w0 : World} (x : WrAt w0) : Array Value := #[.int .i64 (x.i : Int), x.val]
theorem WrAt.rd {w0 w : World} (x : WrAt w0) (h : Below w0.heap.size w0 w) : RdWr (· < w0.heap.size) w x.val x.t :=
  ⟨x.KA, x.KC, x.VA, x.VC, rfl, x.rk.below h, x.rv.below h, x.ht⟩
def KpL (n₀ : Nat) (A B : World) : Prop := Below n₀ A B ∧ ∀ (j : Nat) (c : Array Value) (r : Nat × Nat), A.heap[j]? = some (.cells c 22 r) → B.heap[j]? = A.heap[j]?
theorem KpL.trans {n₀ : Nat} {A B C : World} (h : KpL n₀ A B) (k : KpL n₀ B C) : KpL n₀ A C := ⟨h.1.trans k.1, fun j c r e => (k.2 j c r ((h.2 j c r e).trans e)).trans (h.2 j c r e)⟩
theorem KpL.refl (n₀ : Nat) (A : World) : KpL n₀ A A := ⟨Below.refl _ _, fun _ _ _ _ => rfl⟩
theorem KpL.of {n₀ : Nat} {A B : World} (h : Below A.heap.size A B) (hn : n₀ ≤ A.heap.size) : KpL n₀ A B := ⟨h.mono hn, fun j _ _ e => h.block j (Array.getElem?_eq_some_iff.1 e).1⟩
theorem KpL.box {n₀ b : Nat} {A B : World} {vs : List Value} (h : KpL n₀ A B) (t : BoxN A b 22 vs) : BoxN B b 22 vs := (h.2 b _ _ t).trans t
def PreW {w0 : World} (ls : List Wr) (ys : List (WrAt w0)) : Prop := ∃ r, ls = ys.map (·.t) ++ r
set_option maxRecDepth 100000 in
set_option maxHeartbeats 4000000 in
theorem bwd1_in (l : Nat) {w0 : World} {J Jx : List (WrAt w0) → World → Prop} {sb N : Nat} {a : Option Addr} {n c : Nat} {ls : List Wr} (hl : RdL Elt.wr (· < w0.heap.size) w0 (.slice a n c) ls) (hs : ∀ x ∈ ls, x.key.length ≤ 1000000 ∧ x.val.length ≤ 1000000) (hn : ls.length ≤ 1000000)
    (hY : ∀ pre x W, J pre W → pre.length < N → YieldAt Fence.wide 1 Try.prog l x.enc W fun e W' => (e = .returned (.bool true) ∧ J (pre ++ [x]) W' ∧ KpL w0.heap.size W W') ∨ (e = .returned (.bool false) ∧ Jx (pre ++ [x]) W'))
    (W : World) (hW : Below w0.heap.size w0 W) (hsb : BoxN W sb 22 [.slice a n c]) (h0 : J [] W) (hN : ls.length ≤ N) :
    CallsIn Fence.wide 2 Try.prog 50 #[.func (.yield l) #[] #[], .pointer (some ⟨sb, 0, none⟩)] W fun e W' => (∃ v, e = .returned v) ∧ ((∃ ys : List (WrAt w0), ys.map (·.t) = ls.reverse ∧ J ys W') ∨ (∃ pre, PreW ls.reverse pre ∧ Jx pre W')) := by
  obtain ⟨rfl, hnc, hcm⟩ := hl.len
  have b0 := hsb.cell (i := 0) rfl
  refine callsIn_of_wp Try.func50 rfl trivial ?_ rfl
  simp only [Try.ntmps50, List.size_toArray, List.length_cons, List.length_nil, Nat.reduceAdd, Nat.reduceSub, Array.replicate_succ, Array.replicate_zero, List.push_toArray, List.append_toArray, List.nil_append, List.cons_append]
  gi_wp2
  clear b0
  gi_loopw [3] (fun v wr => ∃ (k : Nat) (i : Int) (pre : List (WrAt w0)), v = .int .i64 i ∧ i = (k : Int) - 1 ∧ k ≤ ls.length ∧ pre.map (·.t) = (ls.drop k).reverse ∧ J pre wr ∧ KpL w0.heap.size W wr)
    (fun v _ => (intOf v + 1).toNat)
  case atStart => exact ⟨ls.length, _, [], rfl, rfl, Nat.le_refl _, by simp, h0, KpL.refl _ _⟩
  case round =>
    obtain ⟨k, i, pre, rfl, hi, hkl, hpre, hJ, hK⟩ := hrel
    cases k with
    | zero =>
      have d0 : decide (0 ≤ i) = false := decide_eq_false (by omega)
      replace hi := Lib.hid hi
      gi_wp2
      go_end0
      exact ⟨⟨_, rfl⟩, .inl ⟨pre, by simpa using hpre, hJ⟩⟩
    | succ j =>
      obtain rfl : i = (j : Int) := by omega
      clear hi
      have hlt : j < ls.length := by omega
      obtain ⟨b, off, KA, KC, VA, VC, rfl, hb, c0, c1, c2, c3, hk1, hk2, hw64⟩ := hl.wr j hlt
      obtain ⟨hx1, hx2⟩ := hs _ (List.getElem_mem hlt)
      have q : Below w0.heap.size w0 wr := hW.trans hK.1
      have e0 := (q.cell (p := ⟨b, off + j * 4, none⟩) hb).trans c0
      have e1 := (q.cell (p := ⟨b, off + j * 4 + 1, none⟩) hb).trans c1
      have e2 := (q.cell (p := ⟨b, off + j * 4 + 2, none⟩) hb).trans c2
      have e3 := (q.cell (p := ⟨b, off + j * 4 + 3, none⟩) hb).trans c3
      have b1 := (hK.box hsb).cell (i := 0) rfl
      have hpl : pre.length < N := by
        have := congrArg List.length hpre
        rw [List.length_map, List.length_reverse, List.length_drop] at this
        omega
      have hy0 := hY pre ⟨j, ls[j], KA, KC, VA, VC, hk1, hk2, hw64, hx1, hx2⟩ wr hJ hpl
      obtain ⟨fn, tmps, assign, body, hy, hR⟩ := hy0
      dsimp only [WrAt.enc, WrAt.val] at hy
      have hnew : (pre ++ [(⟨j, ls[j], KA, KC, VA, VC, hk1, hk2, hw64, hx1, hx2⟩ : WrAt w0)]).map (·.t) = (ls.drop j).reverse := by
        rw [List.map_append, hpre, List.drop_eq_getElem_cons hlt, List.reverse_cons]
        rfl
      replace hpre := Lib.hid hpre
      clear c0 c1 c2 c3
      gi_wp2
      refine hR.mono ?_
      rintro e W3 (⟨rfl, hJ3, hk3⟩ | ⟨rfl, hJx3⟩)
      · clear b1 e0 e1 e2 e3
        gi_wp2
        exact ⟨⟨j, _, _, rfl, rfl, by omega, hnew, hJ3, hK.trans hk3⟩, by simp [intOf]⟩
      · clear b1 e0 e1 e2 e3
        gi_wp2
        refine bodyPost_ret (v := .tuple #[]) (by simp [results, Try.results50, go_sem]) rfl ?_
        refine ⟨⟨_, rfl⟩, .inr ⟨_, ⟨(ls.take j).reverse, ?_⟩, hJx3⟩⟩
        rw [hnew, ← List.reverse_append, List.take_append_drop]
theorem bwd_stops {w0 w : World} {sb N : Nat} {a : Option Addr} {n c : Nat} {ls : List Wr} (hl : RdL Elt.wr (· < w0.heap.size) w0 (.slice a n c) ls) (hs : ∀ x ∈ ls, x.key.length ≤ 1000000 ∧ x.val.length ≤ 1000000) (hn : ls.length ≤ 1000000) (hw : Below w0.heap.size w0 w) (hsb : BoxN w sb 22 [.slice a n c]) (hN : ls.length ≤ N) :
    SeqStopsK Fence.wide 2 Try.prog 50 #[.pointer (some ⟨sb, 0, none⟩)] WrAt.enc (KpL w0.heap.size) (fun ys : List (WrAt w0) => ys.map (·.t) = ls.reverse) (PreW ls.reverse) N w := fun l _ _ W hW _ _ hY h0 =>
  bwd1_in l hl hs hn hY W (hw.trans (hW.mono hw.size)) (hsb.below hW hsb.lt) h0 hN
set_option maxRecDepth 100000 in
theorem bwd_any (w : World) (a : Option Addr) (m c : Nat) :
    Calls Try.prog 38 #[.slice a m c] w fun e w' => e = .returned (.func (.func 50) #[] #[.pointer (some ⟨w.heap.size, 0, none⟩)]) ∧ w' = w.alloc (.cells #[.slice a m c] 22) := by
  go_enter Try.func38, Try.ntmps38
  go_wp2
  go_ret
  exact ⟨rfl, rfl⟩
end Go.Proofs.Ytjbdkhddnblieaa
namespace Go.Proofs.Ytjbdkhddnblieaa
open Go.RowKit Go.Shelf
attribute [local go_sem] Oper.semAt_some
def noWr : Wr := ⟨0, [], false, []⟩
def FndEnd (w : World) (r : Option Wr) (e : Ending) (w' : World) : Prop := ∃ v', e = .returned (.tuple #[v', .bool r.isSome]) ∧ RdWr (fun k => w.heap.size ≤ k ∧ k < w'.heap.size) w' v' (r.getD noWr) ∧ Below w.heap.size w w'
theorem rdS_ownN {S : Nat → Prop} {v : Value} {t : List UInt8} {X Y : World} {row : Option Nat} (h : RdS S X v t) (hg : X.grownBy Y row) (hr : ∀ r, row = some r → ∃ o : Obj, X.heap[r]? = some o ∧ o.isCells = false) : RdS S Y v t := by
  rcases h with h | ⟨b, off, cap, hv, hb, h1, h2, hc⟩
  · exact .inl h
  · by_cases h0 : t = []
    · subst h0; exact .inl ⟨_, _, hv, h2, rfl⟩
    · have hpos : 0 < t.length := List.length_pos_iff.2 h0
      have hcell := hc 0 _ (bv_get t 0 hpos)
      have hk : Y.heap[b]? = X.heap[b]? := hg.block b (cell_lt hcell) fun e => by
        obtain ⟨o, ho, hcl⟩ := hr b e.symm
        simp only [World.cell?, ho] at hcell
        cases o <;> simp [Obj.isCells] at hcl hcell
      exact .inr ⟨b, off, cap, hv, hb, h1, h2, fun j u hj => (cell_keep hk _).trans (hc j u hj)⟩
theorem keepsFrom_box {B b : Nat} {w w' : World} {t : TypeId} {vs : List Value} (hb : BoxN w b t vs) (hg : w.grownBy w' (some b)) : KeepsFrom B w w' :=
  ⟨hg.size, fun k o _ hk hc => (hg.block k (Array.getElem?_eq_some_iff.1 hk).1 fun e => by
    injection e with e
    subst e
    rw [show w.heap[k]? = _ from hb] at hk
    cases hk
    cases hc).trans hk⟩
theorem keepsFrom_below {B : Nat} {w w' : World} (h : Below w.heap.size w w') : KeepsFrom B w w' := KeepsFrom.of_grownBy (grown_below' h none) (fun j e => by cases e)
theorem kpL_boxN {n₀ b : Nat} {w w' : World} {t : TypeId} {vs : List Value} (hb : BoxN w b t vs) (hg : w.grownBy w' (some b)) (hn : n₀ ≤ b) (hn2 : n₀ ≤ w.heap.size) (ht : t ≠ 22) : KpL n₀ w w' :=
  ⟨(Below.refl _ _).grown hg hn2 fun k e => by injection e with e; omega, fun j _ _ e => hg.block j (Array.getElem?_eq_some_iff.1 e).1 fun e2 => by
    injection e2 with e2
    subst e2
    rw [show w.heap[j]? = _ from hb] at e
    injection e with e
    injection e with _ e
    exact ht e⟩
theorem findE_app {K α : Type} [DecidableEq K] {key : α → K} {k : K} {l r : List α} (h : ∀ y ∈ l, key y ≠ k) : findE key k (l ++ r) = findE key k r := by
  induction l with
  | nil => rfl
  | cons y l ih => rw [List.cons_append, findE_cons, if_neg (h y (by simp)), ih fun z hz => h z (by simp [hz])]
theorem kpL_b {n₀ : Nat} {w : World} (hn : n₀ ≤ w.heap.size) (W : World) (l : Nat) (o o' : Obj) (hl : w.heap.size ≤ l) (h1 : W.heap[l]? = some o) (h2 : o.isCells = false) (h3 : o.isWalk = false) : KpL n₀ W (W.putObj l o') :=
  ⟨belowK_b hn W l o o' hl h1 h2 h3, fun j _ _ e => World.putObj_heap_other (fun e2 => by subst e2; rw [h1] at e; cases e; cases h2)⟩
set_option maxRecDepth 100000 in
set_option maxHeartbeats 8000000 in
theorem dFind_any (w : World) {S S2 : Nat → Prop} {v : Value} {d : Dl} {t : Int} {a0 : Option Addr} {n0 c0 : Nat} {key : List UInt8} (h : RdDl S w v d) (hs : smD d) (hk : RdS S2 w (.slice a0 n0 c0) key) :
    Calls Try.prog 20 #[v, .int .i64 t, .slice a0 n0 c0] w (FndEnd w (findD d ⟨t, key⟩)) := by
  replace h : RdDl (· < w.heap.size) w v d := by
    obtain ⟨a, c, a2, c2, e, h1, h2⟩ := h
    exact ⟨a, c, a2, c2, e, h1.fit.weak fun _ hk => hk.2, h2.fit.weak fun _ hk => hk.2⟩
  replace hk : RdS (· < w.heap.size) w (.slice a0 n0 c0) key := hk.fit.weak fun _ h => h.2
  obtain ⟨rfl, _, _⟩ := hk.len
  have hd := h
  obtain ⟨a, c, a2, c2, rfl, hw, hm⟩ := h
  obtain ⟨W0, hW, q, bn, bz, by0, hsz⟩ := boxes3 w 25 28 4 [.slice a d.writes.length c, .slice a2 d.marks.length c2] [.int .i64 0, .slice none 0 0, .bool false, .slice none 0 0] [.bool false]
  refine calls_of_wp_marks Try.func20 rfl ?_
  simp only [Try.ntmps20, List.size_toArray, List.length_cons, List.length_nil, Nat.reduceAdd, Nat.reduceSub, Array.replicate_succ, Array.replicate_zero, List.push_toArray, List.append_toArray, List.nil_append, List.cons_append]
  go_upto_region 1 with (fail)
  rw [show ((w.alloc (.cells #[.slice a d.writes.length c, .slice a2 d.marks.length c2] 25)).alloc (.cells #[.int .i64 0, .slice none 0 0, .bool false, .slice none 0 0] 28)).alloc (.cells #[.bool false] 4) = W0 from hW.symm]
  clear hW
  have b0 := bn.cell (i := 0) rfl
  have b1 := bn.cell (i := 1) rfl
  go_wp2_with fail
  refine (dCheck_any W0 (hd.below q)).mono ?_
  rintro e w4 ⟨rfl, hb4⟩
  have z4 := hb4.size
  replace q := q.trans (hb4.mono q.size)
  replace bn := bn.below hb4 bn.lt
  replace bz := bz.below hb4 bz.lt
  replace by0 := by0.below hb4 by0.lt
  clear b0 b1 hb4
  by_cases hok : okD d
  · have dok : decide (okD d) = true := decide_eq_true hok
    have b0 := bn.cell (i := 0) rfl
    have bp1 := BoxN.new w4 62 [.int .i64 t, .string (strOf key)]
    have bf1 := BoxN.new (w4.alloc (.cells [.int .i64 t, .string (strOf key)].toArray 62)) 58 [Value.nilFunc]
    have s1 : (w4.alloc (.cells [.int .i64 t, .string (strOf key)].toArray 62)).heap.size = w4.heap.size + 1 := World.size_alloc _ _
    have hb1 : Below w4.heap.size w4 (w4.alloc (.cells [.int .i64 t, .string (strOf key)].toArray 62)) := (Below.refl _ _).alloc (Nat.le_refl _) _
    have hb2 : Below (w4.alloc (.cells [.int .i64 t, .string (strOf key)].toArray 62)).heap.size (w4.alloc (.cells [.int .i64 t, .string (strOf key)].toArray 62)) ((w4.alloc (.cells [.int .i64 t, .string (strOf key)].toArray 62)).alloc (.cells [Value.nilFunc].toArray 58)) := (Below.refl _ _).alloc (Nat.le_refl _) _
    have bp2 := bp1.below hb2 bp1.lt
    rw [s1] at bf1
    go_upto_region 5 with (first | (refine wpList_conv byP rfl rfl rfl ((hk.below q).rd) ?_) | (refine wpList_boxSet (j := 0) rfl rfl rfl (by kernel_rfl) rfl rfl rfl rfl bf1 (by simp) ?_; intro w7 hg7 hB7) | fail)
    go_simp
    have hb47 : Below w4.heap.size w4 w7 := (hb1.trans (hb2.mono hb1.size)).grown hg7 (by simp; omega) fun k e => by injection e with e; omega
    have bp7 := bp2.other hg7 (by simp)
    have z7 := hb47.size
    have z7' : w4.heap.size + 2 ≤ w7.heap.size := by have := hg7.size; simp at this; omega
    replace q := q.trans (hb47.mono q.size)
    replace bn := bn.below hb47 bn.lt
    replace bz := bz.below hb47 bz.lt
    replace by0 := by0.below hb47 by0.lt
    simp only [List.set_cons_zero] at hB7
    clear bp1 bf1 s1 hb1 hb2 bp2 hg7 hb47 b0
    obtain ⟨pb, epb⟩ : ∃ pb, pb = w4.heap.size := ⟨_, rfl⟩
    rw [← epb] at hB7 bp7 z7'
    rw [← epb]
    have zpb : w.heap.size + 1 + 1 < pb := by omega
    clear epb z4 z7
    have b0 := bn.cell (i := 0) rfl
    go_wp2_with fail
    refine (bwd_any w7 _ _ _).mono ?_
    rintro e wS ⟨rfl, hw'⟩
    have bS := BoxN.new w7 22 [.slice a d.writes.length c]
    have hbS : Below w7.heap.size w7 wS := by rw [hw']; exact (Below.refl _ _).alloc (Nat.le_refl _) _
    replace bS : BoxN wS w7.heap.size 22 [.slice a d.writes.length c] := by rw [hw']; exact bS
    have zS : wS.heap.size = w7.heap.size + 1 := by rw [hw']; exact World.size_alloc _ _
    clear hw' b0
    replace q := q.trans (hbS.mono q.size)
    replace bz := bz.below hbS bz.lt
    replace by0 := by0.below hbS by0.lt
    replace bp7 := bp7.below hbS bp7.lt
    replace hB7 := hB7.below hbS hB7.lt
    clear bn hbS
    have hst := bwd_stops (N := d.writes.length) hw hs.2.2 hs.1 q bS (Nat.le_refl _)
    clear bS
    go_wp2_with fail
    refine wp_rangeFuncH (gf := 50) (lb := #[.pointer (some ⟨w7.heap.size, 0, none⟩)]) rfl (enters_of Try.func50 (by kernel_rfl) rfl)
      hst (fun h k => h.trans k) (kpL_b q.size) (Below.refl _ _) (fun _ => rfl)
      (fun (pre : List (WrAt w)) W => (∀ y ∈ pre, y.t.plc ≠ ⟨t, key⟩) ∧ BoxN W (w.heap.size + 1) 28 [.int .i64 0, .slice none 0 0, .bool false, .slice none 0 0] ∧ BoxN W (w.heap.size + 1 + 1) 4 [.bool false] ∧ BoxN W pb 62 [.int .i64 t, .string (strOf key)] ∧ BoxN W (pb + 1) 58 [.func (.func 36) #[] #[.pointer (some ⟨pb, 0, none⟩)]] ∧ Below w.heap.size w W ∧ wS.heap.size ≤ W.heap.size)
      (fun c pre W => c = .ret ∧ ∃ (ini : List (WrAt w)) (y : WrAt w) (ka va : Option Addr) (kc vc : Nat), pre = ini ++ [y] ∧ (∀ y ∈ ini, y.t.plc ≠ ⟨t, key⟩) ∧ y.t.plc = ⟨t, key⟩ ∧ BoxN W (w.heap.size + 1) 28 [.int .i64 y.t.table, .slice ka y.t.key.length kc, .bool y.t.gone, .slice va y.t.val.length vc] ∧ BoxN W (w.heap.size + 1 + 1) 4 [.bool true] ∧ RdS (fun g => w.heap.size ≤ g ∧ g < W.heap.size) W (.slice ka y.t.key.length kc) y.t.key ∧ RdS (fun g => w.heap.size ≤ g ∧ g < W.heap.size) W (.slice va y.t.val.length vc) y.t.val ∧ Below w.heap.size w W)
      ?hI ?hIx ⟨(by simp), bz, by0, bp7, hB7, q, Nat.le_refl _⟩
      (fun (y : WrAt w) a' W => ∃ Bx, wS.heap.size ≤ Bx ∧ BoxN W Bx 28 [.int .i64 y.t.table, .slice y.KA y.t.key.length y.KC, .bool y.t.gone, .slice y.VA y.t.val.length y.VC] ∧ a' = { tmps := #[.agg #[.slice a d.writes.length c, .slice a2 d.marks.length c2], .int .i64 t, .slice a0 key.length c0, .pointer (some ⟨w.heap.size, 0, none⟩), undef, undef, .pointer (some ⟨w.heap.size + 1, 0, none⟩), .pointer (some ⟨w.heap.size + 1 + 1, 0, none⟩), .pointer (some ⟨pb, 0, none⟩), .pointer (some ⟨pb + 1, 0, none⟩), undef, .pointer (some ⟨Bx, 0, none⟩), .agg #[.slice a d.writes.length c, .slice a2 d.marks.length c2], .bool true, .bool false, undef, .int .i64 t, .slice a0 key.length c0, .string (strOf key), .agg #[.int .i64 t, .string (strOf key)], .func (.func 36) #[] #[.pointer (some ⟨pb, 0, none⟩)], .pointer (some ⟨w.heap.size, 0, none⟩), .slice a d.writes.length c, .func (.func 50) #[] #[.pointer (some ⟨w7.heap.size, 0, none⟩)], .int .i64 (y.i : Int), .agg #[.int .i64 y.t.table, .slice y.KA y.t.key.length y.KC, .bool y.t.gone, .slice y.VA y.t.val.length y.VC], undef, undef, undef, undef, undef, undef], defers := [] })
      ?hAx ?assign ?body ?done ?stop
    case hI => exact OwnFrom.and (fun _ _ _ _ hs _ _ => hs) (OwnFrom.and boxN_own (OwnFrom.and boxN_own (OwnFrom.and boxN_own (OwnFrom.and boxN_own (OwnFrom.and (below_ownN (Nat.le_refl _) (by omega)) (fun _ _ _ _ hs hg _ => Nat.le_trans hs hg.size))))))
    case hIx =>
      intro c s X Y row hs hg hr
      obtain ⟨ec, ini, y, ka, va, kc, vc, e1, e2, e3, h1, h2, h3, h4, h5⟩ := hs
      exact ⟨ec, ini, y, ka, va, kc, vc, e1, e2, e3, boxN_own () X Y row h1 hg hr, boxN_own () X Y row h2 hg hr, (rdS_ownN h3 hg fun r e => (hr r e).2).weak fun g hg2 => ⟨hg2.1, Nat.lt_of_lt_of_le hg2.2 hg.size⟩, (rdS_ownN h4 hg fun r e => (hr r e).2).weak fun g hg2 => ⟨hg2.1, Nat.lt_of_lt_of_le hg2.2 hg.size⟩, below_ownN (β := Unit) (N := wS.heap.size) (Nat.le_refl _) (by omega) () X Y row h5 hg hr⟩
    case hAx =>
      intro y a' _ X Y row hs hg hr
      obtain ⟨Bx, h1, h2, e⟩ := hs
      exact ⟨Bx, h1, boxN_own () X Y row h2 hg hr, e⟩
    case assign =>
      rintro l pre y W K ⟨hne, hz, hy0, hp, hf, hbw, hWS⟩ hK
      have hs1 := hz.lt
      have hs2 := hy0.lt
      have hs3 := hp.lt
      have hs4 := hf.lt
      have eZ : (#[24, 25] : Array Tmp).zip y.enc = #[(24, .int .i64 (y.i : Int)), (25, .agg #[.int .i64 y.t.table, .slice y.KA y.t.key.length y.KC, .bool y.t.gone, .slice y.VA y.t.val.length y.VC])] := by kernel_rfl
      rw [eZ]
      simp only [List.foldl_toArray', List.foldl_cons, List.foldl_nil]
      go_simp
      gi_wp2_with (first | (refine inR_boxNew (vs := [.int .i64 0, .slice none 0 0, .bool false, .slice none 0 0]) (by kernel_rfl) rfl rfl ?_; intro wa hba hBa) | (refine inR_boxStore (us := [.int .i64 y.t.table, .slice y.KA y.t.key.length y.KC, .bool y.t.gone, .slice y.VA y.t.val.length y.VC]) (by kernel_rfl) rfl rfl rfl rfl rfl rfl hBa rfl ?_; intro wb hgb hBb) | fail)
      have zz := hba.size
      have hbb := hba.grown hgb hba.size fun k e => by injection e with e; omega
      exact hK _ _ ((keepsFrom_below hba).trans (keepsFrom_box hBa hgb)) ((KpL.of hba hbw.size).trans (kpL_boxN hBa hgb hbw.size (by omega) (by decide))) ⟨hne, hz.below hbb hs1, hy0.below hbb hs2, hp.below hbb hs3, hf.below hbb hs4, hbw.trans (hbb.mono hbw.size), Nat.le_trans hWS hbb.size⟩ ⟨W.heap.size, hWS, hBb, rfl⟩
    case body =>
      rintro l pre y a' W ⟨hne, hz, hy0, hp, hf, hbw, hWS⟩ ⟨Bx, hBx, hbx, rfl⟩ hlt
      have hs1 := hz.lt
      have hs2 := hy0.lt
      have hcl := CallsIn.inRound l ((callsIn_wide (n := 0)).2 (findIs_any W (p := ⟨t, key⟩) (y.rd hbw) hp))
      have f0 := hf.cell (i := 0) rfl
      have x0 := hbx.cell (i := 0) rfl
      have x1 := hbx.cell (i := 1) rfl
      have x2 := hbx.cell (i := 2) rfl
      have x3 := hbx.cell (i := 3) rfl
      dsimp only [WrAt.val] at hcl
      gi_wp2
      refine ⟨trivial, hcl.mono ?_⟩
      rintro e W3 ⟨rfl, hb3⟩
      have zb3 := hb3.size
      by_cases hm : y.t.plc = ⟨t, key⟩
      · have dm : decide (y.t.plc = ⟨t, key⟩) = true := decide_eq_true hm
        replace hm := Lib.hid hm
        have hcl2 := CallsIn.inRound l ((callsIn_wide (n := 0)).2 (dAlone_any W3 ((y.rd hbw).below hb3) y.hk y.hv))
        have hbx3 := hbx.below hb3 hbx.lt
        clear x0 x1 x2 x3 f0 hcl
        have x0 := hbx3.cell (i := 0) rfl
        have x1 := hbx3.cell (i := 1) rfl
        have x2 := hbx3.cell (i := 2) rfl
        have x3 := hbx3.cell (i := 3) rfl
        dsimp only [WrAt.val] at hcl2
        gi_wp2
        refine ⟨trivial, hcl2.mono ?_⟩
        rintro e W4 ⟨v4, rfl, ⟨ka, kc, va, vc, rfl, hk4, hv4, ht4⟩, hb4⟩
        have zb4 := hb4.size
        have hb34 := hb3.trans (hb4.mono zb3)
        have hz4 := hz.below hb34 hs1
        have hy4 := hy0.below hb34 hs2
        gi_wp2_with (first | (refine inR_boxStore (us := [.int .i64 y.t.table, .slice ka y.t.key.length kc, .bool y.t.gone, .slice va y.t.val.length vc]) (by kernel_rfl) rfl rfl rfl rfl rfl rfl hz4 rfl ?_; intro W5 hg5 hB5) | (refine inR_boxSet (j := 0) rfl rfl rfl (by kernel_rfl) rfl rfl rfl rfl (hy4.other hg5 (by simp)) (by simp) ?_; intro W6 hg6 hB6) | fail)
        have zb5 := hg5.size
        have zb6 := hg6.size
        have hqW := hbw.size
        have hk6 : ∀ k, W3.heap.size ≤ k ∧ k < W4.heap.size → W6.heap[k]? = W4.heap[k]? := fun k hk => (hg6.block k (by omega) fun e => by injection e with e; omega).trans (hg5.block k hk.2 fun e => by injection e with e; omega)
        refine ⟨((keepsFrom_below hb34).trans (keepsFrom_box hz4 hg5)).trans (keepsFrom_box (hy4.other hg5 (by simp)) hg6), rfl, pre, y, ka, va, kc, vc, rfl, hne, hm.out, hB5.other hg6 (by simp), hB6, (hk4.keep hk6).weak fun k hk => ⟨by omega, by omega⟩, (hv4.keep hk6).weak fun k hk => ⟨by omega, by omega⟩, ((hbw.trans (hb34.mono hqW)).grown hg5 (by omega) fun k e => by injection e with e; omega).grown hg6 (by omega) fun k e => by injection e with e; omega⟩
      · have dm : decide (y.t.plc = ⟨t, key⟩) = false := decide_eq_false hm
        replace hm := Lib.hid hm
        clear x0 x1 x2 x3 f0 hcl
        gi_wp2
        exact ⟨keepsFrom_below hb3, KpL.of hb3 hbw.size, fun z hz2 => by
          rcases List.mem_append.1 hz2 with h | h
          · exact hne z h
          · simp at h; subst h; exact hm.out, hz.below hb3 hs1, hy0.below hb3 hs2, hp.below hb3 hp.lt, hf.below hb3 hf.lt, hbw.trans (hb3.mono hbw.size), Nat.le_trans hWS hb3.size⟩
    case stop =>
      rintro D cc pre W hD ⟨r, hpre⟩ ⟨rfl, ini, y, ka, va, kc, vc, rfl, hne, hm, hz, hy0, hk4, hv4, hbw⟩ hK
      have HK := Lib.hid (show findD d ⟨t, key⟩ = some y.t by
        unfold findD findW
        rw [if_pos hok, hpre, List.map_append, List.append_assoc, findE_app (fun z hz => ?_)]
        · rw [List.map_cons, List.map_nil, List.singleton_append, findE_cons, if_pos hm]
        · obtain ⟨z', hz', rfl⟩ := List.mem_map.1 hz
          exact hne z' hz')
      replace hm := Lib.hid hm
      replace hpre := Lib.hid hpre
      go_wp2_with fail
      have hz5 := hz.other (grownBy_putObj' W D (Obj.deferred none)) (fun e => by injection e with e; subst e; rw [show W.heap[_]? = _ from hz] at hK; cases hK)
      have hy5 := hy0.other (grownBy_putObj' W D (Obj.deferred none)) (fun e => by injection e with e; subst e; rw [show W.heap[_]? = _ from hy0] at hK; cases hK)
      have c0 := hz5.cell (i := 0) rfl
      have c1 := hz5.cell (i := 1) rfl
      have c2 := hz5.cell (i := 2) rfl
      have c3 := hz5.cell (i := 3) rfl
      have d0 := hy5.cell (i := 0) rfl
      obtain ⟨fs, hu, _⟩ := wrS.hu
      refine ⟨by simp, .inl ⟨_, _, rfl, run_takeDeferred hK, ?_⟩⟩
      refine ⟨.tuple #[.agg #[.int .i64 y.t.table, .slice ka y.t.key.length kc, .bool y.t.gone, .slice va y.t.val.length vc], .bool true], by simp [results, Try.results20, go_sem, loadVar, isAgg, run_underlying hu, run_sizeOf' wrS.hs, loadCellsFrom, Addr.add, c0, c1, c2, c3, d0], ?_⟩
      rw [FndEnd, HK.out]
      exact ⟨_, rfl, ⟨ka, kc, va, vc, rfl, (rdS_ownN hk4 (grownBy_putObj' W D (Obj.deferred none)) fun r e => by injection e with e; subst e; exact ⟨_, hK, rfl⟩).weak fun g hg => ⟨hg.1, by simpa using hg.2⟩, (rdS_ownN hv4 (grownBy_putObj' W D (Obj.deferred none)) fun r e => by injection e with e; subst e; exact ⟨_, hK, rfl⟩).weak fun g hg => ⟨hg.1, by simpa using hg.2⟩, y.ht⟩, hbw.trans (belowK_b (w := w) (Nat.le_refl _) W D _ _ (by omega) hK rfl rfl)⟩
    case done =>
      rintro D ys W hD hys ⟨hne, hz, hy0, hp, hf, hbw, hWS⟩ hK
      have HK := Lib.hid (show findD d ⟨t, key⟩ = none by
        unfold findD findW
        rw [if_pos hok, ← hys]
        refine findE_none.2 fun z hz => ?_
        obtain ⟨z', hz', rfl⟩ := List.mem_map.1 hz
        exact hne z' hz')
      replace hys := Lib.hid hys
      go_wp2_with (first | (refine wpList_boxStore (us := [.int .i64 0, .slice none 0 0, .bool false, .slice none 0 0]) (by kernel_rfl) rfl rfl rfl rfl rfl rfl hz rfl ?_; intro W5 hg5 hB5) | (refine wpList_boxSet (j := 0) rfl rfl rfl (by kernel_rfl) rfl rfl rfl rfl (hy0.other hg5 (by simp)) (by simp) ?_; intro W6 hg6 hB6) | fail)
      have hK5 : W5.heap[D]? = some (.deferred (some [])) := (hg5.block D (Array.getElem?_eq_some_iff.1 hK).1 fun e => by injection e with e; subst e; rw [show W.heap[_]? = _ from hz] at hK; cases hK).trans hK
      have hy5 := hy0.other hg5 (by simp)
      have hK6 : W6.heap[D]? = some (.deferred (some [])) := (hg6.block D (Array.getElem?_eq_some_iff.1 hK5).1 fun e => by injection e with e; subst e; rw [show W5.heap[_]? = _ from hy5] at hK5; cases hK5).trans hK5
      have hz6 := hB5.other hg6 (by simp)
      have hqW := hbw.size
      have zb5 := hg5.size
      have hb6 : Below w.heap.size w W6 := (hbw.grown hg5 hqW fun k e => by injection e with e; omega).grown hg6 (by omega) fun k e => by injection e with e; omega
      refine ⟨by simp, .inl ⟨_, _, rfl, run_takeDeferred hK6, ?_⟩⟩
      have hz7 := hz6.other (grownBy_putObj' W6 D (Obj.deferred none)) (fun e => by injection e with e; subst e; rw [show W6.heap[_]? = _ from hz6] at hK6; cases hK6)
      have hy7 := hB6.other (grownBy_putObj' W6 D (Obj.deferred none)) (fun e => by injection e with e; subst e; rw [show W6.heap[_]? = _ from hB6] at hK6; cases hK6)
      have c0 := hz7.cell (i := 0) rfl
      have c1 := hz7.cell (i := 1) rfl
      have c2 := hz7.cell (i := 2) rfl
      have c3 := hz7.cell (i := 3) rfl
      have d0 : _ = some (Value.bool false) := hy7.cell (i := 0) rfl
      obtain ⟨fs, hu, _⟩ := wrS.hu
      refine ⟨.tuple #[.agg #[.int .i64 0, .slice none 0 0, .bool false, .slice none 0 0], .bool false], by simp [results, Try.results20, go_sem, loadVar, isAgg, run_underlying hu, run_sizeOf' wrS.hs, loadCellsFrom, Addr.add, c0, c1, c2, c3, d0], ?_⟩
      rw [FndEnd, HK.out]
      exact ⟨_, rfl, ⟨none, 0, none, 0, rfl, RdS.nil _ _, RdS.nil _ _, by unfold W64; decide⟩, hb6.trans (belowK_b (w := w) (Nat.le_refl _) W6 D _ _ (by omega) hK6 rfl rfl)⟩
  · have dok : decide (okD d) = false := decide_eq_false hok
    have HK := Lib.hid (show findD d ⟨t, key⟩ = none from if_neg hok)
    go_wp2_with (first | (refine wpList_boxStore (us := [.int .i64 0, .slice none 0 0, .bool false, .slice none 0 0]) (by kernel_rfl) rfl rfl rfl rfl rfl rfl bz rfl ?_; intro w5 hg5 hB5) | (refine wpList_boxSet (j := 0) rfl rfl rfl (by kernel_rfl) rfl rfl rfl rfl (by0.other hg5 (by simp)) (by simp) ?_; intro w6 hg6 hB6) | fail)
    have hz6 := hB5.other hg6 (by simp)
    have c0 := hz6.cell (i := 0) rfl
    have c1 := hz6.cell (i := 1) rfl
    have c2 := hz6.cell (i := 2) rfl
    have c3 := hz6.cell (i := 3) rfl
    have d0 : _ = some (Value.bool false) := hB6.cell (i := 0) rfl
    have hqW := q.size
    have zb5 := hg5.size
    have hb6 : Below w.heap.size w w6 := (q.grown hg5 hqW fun k e => by injection e with e; omega).grown hg6 (by omega) fun k e => by injection e with e; omega
    obtain ⟨fs, hu, _⟩ := wrS.hu
    refine ⟨.tuple #[.agg #[.int .i64 0, .slice none 0 0, .bool false, .slice none 0 0], .bool false], by simp [results, Try.results20, go_sem, loadVar, isAgg, run_underlying hu, run_sizeOf' wrS.hs, loadCellsFrom, Addr.add, c0, c1, c2, c3, d0], ?_⟩
    rw [FndEnd, HK.out]
    exact ⟨_, rfl, ⟨none, 0, none, 0, rfl, RdS.nil _ _, RdS.nil _ _, by unfold W64; decide⟩, hb6⟩
end Go.Proofs.Ytjbdkhddnblieaa
namespace Go.Proofs.Ytjbdkhddnblieaa
open Go.RowKit
theorem grown_setRow (w : World) (g : Nat) (cs : Array Value) : w.grownBy (w.setRow g cs) (some g) :=
  ⟨rfl, rfl, rfl, by unfold World.setRow; simp, fun k _ hk => setRow_other w g k cs (fun e => hk (by rw [e]))⟩
end Go.Proofs.Ytjbdkhddnblieaa
namespace Go.Proofs.Ytjbdkhddnblieaa
open Go.RowKit
def ApJ {α : Type} (E : Elt α) (Te : TypeId) (base lo : Nat) (r : Option Nat) (W : World) (xs ys : List α) : List Value → World → Prop
  | [], V => Below W.heap.size W V
  | s :: rest, V => (∀ u ∈ rest, u = s) ∧ W.grownBy V r ∧ ∃ ad c, s = .slice ad (xs ++ ys).length c ∧ OwnL E Te base lo V (.slice ad (xs ++ ys).length c) (xs ++ ys)
section
variable {α : Type} {E : Elt α} {Te : TypeId} {base lo : Nat} {r : Option Nat} {W : World} {xs ys : List α}
theorem grownB {A B : World} (h : Below A.heap.size A B) (r : Option Nat) : A.grownBy B r := ⟨h.os, h.tape, h.output, h.size, fun k hk _ => h.block k hk⟩
theorem grownT {A B C : World} (h : A.grownBy B r) (k : B.grownBy C r) : A.grownBy C r := ⟨k.os.trans h.os, k.tape.trans h.tape, k.output.trans h.output, Nat.le_trans h.size k.size, fun j hj hn => (k.block j (Nat.lt_of_lt_of_le hj h.size) hn).trans (h.block j hj hn)⟩
theorem ApJ.below : ∀ (l : List Value) (V V' : World), ApJ E Te base lo r W xs ys l V → Below V.heap.size V V' → ApJ E Te base lo r W xs ys l V'
  | [], _, _, h, hb => Below.trans h (hb.mono (Below.size h))
  | _ :: _, _, _, ⟨h0, h1, ad, c, e, h2⟩, hb => ⟨h0, grownT h1 (grownB hb r), ad, c, e, h2.below hb⟩
theorem ApJ.grown : ∀ {l : List Value} {V : World}, ApJ E Te base lo r W xs ys l V → W.grownBy V r
  | [], _, h => grownB h r
  | _ :: _, _, ⟨_, h, _⟩ => h
theorem RdS.grownR {S : Nat → Prop} {V : World} {v : Value} {l : List UInt8} (h : RdS S W v l) (hg : W.grownBy V r) (hr : ∀ k, r = some k → ¬ S k) : RdS S V v l := (h.fit.keep fun k hk => hg.block k hk.2 fun e => hr k e.symm hk.1).weak fun _ hk => hk.1
theorem RdL.grownR {β : Type} {F : Elt β} {S : Nat → Prop} {V : World} {v : Value} {l : List β} (h : RdL F S W v l) (hg : W.grownBy V r) (hr : ∀ k, r = some k → ¬ S k) : RdL F S V v l := (h.fit.keep fun k hk => hg.block k hk.2 fun e => hr k e.symm hk.1).weak fun _ hk => hk.1
def inNew (S : Nat → Prop) (W V : World) : Nat → Prop := fun k => (S k ∨ W.heap.size ≤ k) ∧ k < V.heap.size
theorem inNew.ne {S : Nat → Prop} {V : World} {k : Nat} (hr : ∀ k, r = some k → k < W.heap.size) (hS : ∀ k, S k → some k ≠ r) (h : inNew S W V k) : some k ≠ r := by
  rcases h.1 with h1 | h1
  · exact hS k h1
  · intro e; have := hr k e.symm; omega
def aElt (E : Elt α) (W : World) (r : Option Nat) (S : Nat → Prop) (x : α) (hr : ∀ k, r = some k → k < W.heap.size) (hS : ∀ k, S k → some k ≠ r) : SGn (fun A B => A.grownBy B r) :=
  ⟨fun V v => ∃ us : List Value, v.cells = us.toArray ∧ E.R (inNew S W V) V x us,
  fun _ _ _ ⟨us, e, h⟩ hb => ⟨us, e, E.weak (Elt.below h hb) fun _ hk => ⟨hk.1, Nat.lt_of_lt_of_le hk.2 hb.size⟩⟩,
  fun _ _ _ ⟨us, e, h⟩ hk => ⟨us, e, E.weak (E.keep h fun k h2 => hk.block k h2.2 (inNew.ne hr hS h2)) fun _ h2 => ⟨h2.1, Nat.lt_of_lt_of_le h2.2 hk.size⟩⟩⟩
def aRd (W : World) (r : Option Nat) (S : Nat → Prop) (x : List UInt8) (hr : ∀ k, r = some k → k < W.heap.size) (hS : ∀ k, S k → some k ≠ r) : SGn (fun A B => A.grownBy B r) :=
  ⟨fun V v => RdS (inNew S W V) V v x,
  fun _ _ _ h hb => (h.below hb).weak fun _ hk => ⟨hk.1, Nat.lt_of_lt_of_le hk.2 hb.size⟩,
  fun _ _ _ h hk => (h.keep fun k h2 => hk.block k h2.2 (inNew.ne hr hS h2)).weak fun _ h2 => ⟨h2.1, Nat.lt_of_lt_of_le h2.2 hk.size⟩⟩
def aRow (E : Elt α) (Te : TypeId) (W : World) (r : Option Nat) (S : Nat → Prop) (x : α) (hr : ∀ k, r = some k → k < W.heap.size) (hS : ∀ k, S k → some k ≠ r) : SGn (fun A B => A.grownBy B r) :=
  ⟨fun V v => ∃ g, ∃ us : List Value, v = .slice (some ⟨g, 0, none⟩) 1 1 ∧ W.heap.size ≤ g ∧ V.heap[g]? = some (.cells us.toArray Te (0, 0)) ∧ E.R (inNew S W V) V x us,
  fun _ _ _ ⟨g, us, h, h0, hc, hR⟩ hb => ⟨g, us, h, h0, (hb.block g (Array.getElem?_eq_some_iff.1 hc).1).trans hc, E.weak (Elt.below hR hb) fun _ hk => ⟨hk.1, Nat.lt_of_lt_of_le hk.2 hb.size⟩⟩,
  fun _ _ _ ⟨g, us, h, h0, hc, hR⟩ hk => ⟨g, us, h, h0, (hk.block g (Array.getElem?_eq_some_iff.1 hc).1 (fun e => by have := hr g e.symm; omega)).trans hc, E.weak (E.keep hR fun k h2 => hk.block k h2.2 (inNew.ne hr hS h2)) fun _ h2 => ⟨h2.1, Nat.lt_of_lt_of_le h2.2 hk.size⟩⟩⟩
def aZb (T : TypeId) (W : World) (r : Option Nat) (hr : ∀ k, r = some k → k < W.heap.size) : SGn (fun A B => A.grownBy B r) :=
  ⟨fun V v => ∃ g, v = .slice (some g) 0 0 ∧ Own T W.heap.size V v [], fun _ _ _ ⟨g, e, h⟩ hb => ⟨g, e, h.below hb⟩,
    fun _ _ _ ⟨g, e, n, h⟩ hk => ⟨g, e, n, h.1, h.2.imp id fun ⟨g, cap, cur, hv, h1, hg, z⟩ => ⟨g, cap, cur, hv, h1, (hk.block g (Array.getElem?_eq_some_iff.1 hg).1 (fun e => by have := hr g e.symm; omega)).trans hg, z⟩⟩⟩
theorem aRow.mk {S : Nat → Prop} {x : α} {us : List Value} {hr : ∀ k, r = some k → k < W.heap.size} {hS : ∀ k, S k → some k ≠ r} {V : World} (hWV : W.heap.size ≤ V.heap.size) (hR : E.R (inNew S W V) V x us) :
    (aRow E Te W r S x hr hS).1 (V.alloc (.cells us.toArray Te)) (.slice (some ⟨V.heap.size, 0, none⟩) 1 1) := by
  have hb : Below V.heap.size V (V.alloc (.cells us.toArray Te)) := (Below.refl _ _).alloc (Nat.le_refl _) _
  exact ⟨_, us, rfl, hWV, by simp only [World.alloc, Array.getElem?_push_size], E.weak (Elt.below hR hb) fun k hk => ⟨hk.1, Nat.lt_of_lt_of_le hk.2 hb.size⟩⟩
variable {P : Program} {T : TypeId} {o : Oper} {a : Act} {Q : Exit → Act → World → Prop} {K : Act → World → Prop}
theorem wp_apv (hP : LoP P T Te E.size) {x y : Operand} {S : Nat → Prop} {e : α} {hr : ∀ k, r = some k → k < W.heap.size} {hS : ∀ k, S k → some k ≠ r} {V : World} (hJ : Below W.heap.size W V) (ho : o.op = .call { callee := .builtin .append, args := #[x, y], argTypes := #[T, T] }) {v u : Value} (hx : a.eval x = v) (hy : a.eval y = u)
    (hO : OwnL E Te base lo W v xs) (hro : r = v.ownBlock) (hu : (aRow E Te W r S e hr hS).1 V u) (hSl : ∀ k, S k → lo ≤ k) (hlo : lo ≤ W.heap.size) (hbase : base ≤ W.heap.size) (hlen : xs.length + 1 ≤ 1073741824)
    (h : ∀ v' V', ApJ E Te base lo r W xs [e] [v'] V' → V.grownBy V' r → K (a.put o.dst v') V') : o.wp P a V K Q := by
  obtain ⟨g, us, eg, hg0, hgc, hgR⟩ := hu
  subst eg
  subst hro
  refine wp_appendL (E := E) (ys := [e]) hP ho hx (hO.below hJ) hy (fun j u hj => by rw [Addr.add_lit, World.cell?, hgc]; simpa using hj) (Flat.single hgR) (fun k hk => ⟨?_, hk.2, inNew.ne hr hS hk⟩) (Nat.le_trans hbase hJ.size) (fun ad7 k7 cap7 w2 h2 hg h3 => ?_) hlen
  · rcases hk.1 with h1 | h1
    · exact hSl k h1
    · exact Nat.le_trans hlo h1
  · obtain rfl : k7 = (xs ++ [e]).length := h2.len
    exact h _ _ ⟨(fun _ h => by cases h), grownT (grownB hJ _) hg, ad7, cap7, rfl, h2⟩ hg
variable {ops : Array Oper} {rest : List Oper} {w : World}
theorem wpList_buildOne {n : Nat} (hP : LoP P T Te n) {y : Operand} {v : Value} {us : List Value} (ho : o.op = .buildSlice T 1 #[(0, y)]) (hgd : Region.wanted o (yielded ops a.tmps) = true) (hy : a.eval y = v) (hv : v.cells = us.toArray) (hl : us.length = n) (h0 : 0 < n) (hn : n ≤ 4096)
    (h : ∀ w', Below w.heap.size w w' → w'.heap[w.heap.size]? = some (.cells us.toArray Te (0, 0)) → wpList P ops Q rest (a.put o.dst (.slice (some ⟨w.heap.size, 0, none⟩) 1 1)) w') : wpList P ops Q (o :: rest) a w :=
  BigFrame.wpList_want hgd fun _ hK => wp_buildOne hP ho hy hv hl h0 hn (hK _ _ (h _ ((Below.refl _ _).alloc (Nat.le_refl _) _) (by simp only [World.alloc, Array.getElem?_push_size])))
theorem wpList_apvRow (hP : LoP P T Te E.size) {x y : Operand} {S : Nat → Prop} {e : α} {us : List Value} {n g : Nat} {v : Value} (ho : o.op = .call { callee := .builtin .append, args := #[x, y], argTypes := #[T, T] }) (hgd : Region.wanted o (yielded ops a.tmps) = true) (hx : a.eval x = v) (hy : a.eval y = .slice (some ⟨g, 0, none⟩) 1 1)
    (hO : OwnL E Te base lo w v xs) (hrow : w.heap[g]? = some (.cells us.toArray Te (0, 0))) (hR : E.R S w e us) (hS : ∀ k, S k → lo ≤ k ∧ k < w.heap.size ∧ some k ≠ v.ownBlock) (hbase : base ≤ w.heap.size) (hlen : xs.length + 1 ≤ 1073741824) (hn : n = xs.length + 1)
    (h : ∀ ad cap w', OwnL E Te base lo w' (.slice ad n cap) (xs ++ [e]) → w.grownBy w' v.ownBlock → (Value.ownBlock (.slice ad n cap) = v.ownBlock ∨ Value.ownBlock (.slice ad n cap) = some w.heap.size) → wpList P ops Q rest (a.put o.dst (.slice ad n cap)) w') : wpList P ops Q (o :: rest) a w := by
  refine wpList_appendL (E := E) (ys := [e]) hP ho hgd hx hO hy (fun j u hj => by rw [Addr.add_lit, World.cell?, hrow]; simpa using hj) (Flat.single hR) hS hbase (fun ad7 k7 cap7 w2 h2 hg h3 => ?_) hlen
  obtain rfl : k7 = n := by rw [h2.len, List.length_append, hn]; rfl
  exact h _ _ _ h2 hg h3
end
end Go.Proofs.Ytjbdkhddnblieaa
namespace Go.Proofs.Ytjbdkhddnblieaa
def refGo (w : Wr) : Bool → List Pq → List Pq
  | d, [] => if d then [] else [⟨w.key, w.val⟩]
  | d, p :: l => (if !d && !ltB p.key w.key then [⟨w.key, w.val⟩] else []) ++ ((if w.key = p.key then [] else [p]) ++ refGo w (d || !ltB p.key w.key) l)
theorem refGo_true (w : Wr) : ∀ l, refGo w true l = delE Pq.key w.key l
  | [] => rfl
  | p :: l => by
    unfold refGo delE
    rw [List.filter_cons, Bool.true_or, refGo_true w l]
    by_cases h : w.key = p.key
    · simp [h, delE]
    · have h2 : ¬ p.key = w.key := fun e => h e.symm
      simp [h, h2, delE]
theorem refGo_false (w : Wr) : ∀ {l}, SrtQ l → refGo w false l = insE ltB Pq.key ⟨w.key, w.val⟩ l
  | [], _ => rfl
  | p :: l, h => by
    have h2 := List.pairwise_cons.1 h
    unfold refGo insE
    by_cases e : w.key = p.key
    · have e1 : ltB p.key w.key = false := by rw [e]; exact ltB_irrefl _
      rw [e1]
      simp only [e, if_true, Bool.not_false, Bool.and_self, Bool.false_or, List.nil_append]
      rw [refGo_true]
      have : delE Pq.key w.key l = l := by
        unfold delE
        rw [List.filter_eq_self]
        intro y hy
        have := ltB_ne (h2.1 y hy)
        rw [e]
        simpa using fun e2 => this (e2.symm)
      rw [this]
      rfl
    · by_cases e1 : ltB w.key p.key = true
      · have e2 : ltB p.key w.key = false := ltB_asymm e1
        rw [e2]
        simp only [e, e1, if_true, if_false, Bool.not_false, Bool.and_self, Bool.false_or]
        rw [refGo_true]
        have : delE Pq.key w.key l = l := by
          unfold delE
          rw [List.filter_eq_self]
          intro y hy
          have := ltB_ne (ltB_trans e1 (h2.1 y hy))
          simpa using fun e2 => this (e2.symm)
        rw [this]
        rfl
      · have e2 : ltB p.key w.key = true := ltB_total e (by simpa using e1)
        rw [e2]
        simp only [e, e1, if_false, Bool.not_true, Bool.and_false, Bool.false_or]
        rw [refGo_false w h2.2]
        simp
theorem refGo_done {w : Wr} {l : List Pq} (h : SrtQ l) : refGo w w.gone l = doneW w l := by
  unfold doneW
  cases w.gone with
  | true => rw [if_pos rfl, refGo_true]
  | false => rw [if_neg (by simp), refGo_false w h]
def candW (pv : Option Plc) (w : Wr) : Bool := match pv with
  | none => true
  | some p => ltP p w.plc
def BestW (ws : List Wr) (pv : Option Plc) (i : Nat) (b : Int) : Prop :=
  (b = -1 ∧ ∀ j w, j < i → ws[j]? = some w → candW pv w = false) ∨
  ∃ (n : Nat) (v : Wr), b = (n : Int) ∧ n < i ∧ ws[n]? = some v ∧ candW pv v = true ∧ (∀ j w, j < i → ws[j]? = some w → candW pv w = true → ltP w.plc v.plc = false) ∧ ∀ j w, n < j → j < i → ws[j]? = some w → candW pv w = true → ltP v.plc w.plc = true
theorem BestW.start (ws : List Wr) (pv : Option Plc) : BestW ws pv 0 (-1) := .inl ⟨rfl, fun _ _ h => absurd h (Nat.not_lt_zero _)⟩
theorem BestW.skip {ws : List Wr} {pv : Option Plc} {i : Nat} {b : Int} (h : BestW ws pv i b) {w : Wr} (hw : ws[i]? = some w) (hc : candW pv w = false) : BestW ws pv (i + 1) b := by
  rcases h with ⟨h1, h2⟩ | ⟨n, v, h1, h2, h3, h4, h5, h6⟩
  · refine .inl ⟨h1, fun j u hj hu => ?_⟩
    by_cases e : j = i
    · subst e; rw [hw] at hu; injection hu with hu; subst hu; exact hc
    · exact h2 j u (by omega) hu
  · refine .inr ⟨n, v, h1, by omega, h3, h4, fun j u hj hu hcu => ?_, fun j u hn hj hu hcu => ?_⟩
    · by_cases e : j = i
      · subst e; rw [hw] at hu; injection hu with hu; subst hu; rw [hc] at hcu; cases hcu
      · exact h5 j u (by omega) hu hcu
    · by_cases e : j = i
      · subst e; rw [hw] at hu; injection hu with hu; subst hu; rw [hc] at hcu; cases hcu
      · exact h6 j u hn (by omega) hu hcu
theorem BestW.first {ws : List Wr} {pv : Option Plc} {i : Nat} (h : BestW ws pv i (-1)) {w : Wr} (hw : ws[i]? = some w) (hc : candW pv w = true) : BestW ws pv (i + 1) (i : Int) := by
  rcases h with ⟨h1, h2⟩ | ⟨n, v, h1, _⟩
  · refine .inr ⟨i, w, rfl, by omega, hw, hc, fun j u hj hu hcu => ?_, fun j u hn hj hu hcu => by omega⟩
    by_cases e : j = i
    · subst e; rw [hw] at hu; injection hu with hu; subst hu; exact totP.irr _
    · rw [h2 j u (by omega) hu] at hcu; cases hcu
  · omega
theorem BestW.turn {ws : List Wr} {pv : Option Plc} {i n : Nat} (h : BestW ws pv i (n : Int)) {v w : Wr} (hv : ws[n]? = some v) (hw : ws[i]? = some w) (hc : candW pv w = true) (hl : ltP v.plc w.plc = false) : BestW ws pv (i + 1) (i : Int) := by
  rcases h with ⟨h1, _⟩ | ⟨m, v', h1, h2, h3, h4, h5, h6⟩
  · omega
  · obtain rfl : n = m := by omega
    rw [hv] at h3; injection h3 with h3; subst h3
    refine .inr ⟨i, w, rfl, by omega, hw, hc, fun j u hj hu hcu => ?_, fun j u hn hj hu hcu => by omega⟩
    by_cases e : j = i
    · subst e; rw [hw] at hu; injection hu with hu; subst hu; exact totP.irr _
    · have h7 := h5 j u (by omega) hu hcu
      cases h8 : ltP u.plc w.plc with
      | false => rfl
      | true =>
        by_cases e2 : v.plc = w.plc
        · rw [← e2, h7] at h8; cases h8
        · have := totP.tr h8 (totP.tot e2 hl)
          rw [h7] at this; cases this
theorem BestW.stay {ws : List Wr} {pv : Option Plc} {i n : Nat} (h : BestW ws pv i (n : Int)) {v w : Wr} (hv : ws[n]? = some v) (hw : ws[i]? = some w) (hl : ltP v.plc w.plc = true) : BestW ws pv (i + 1) (n : Int) := by
  rcases h with ⟨h1, _⟩ | ⟨m, v', h1, h2, h3, h4, h5, h6⟩
  · omega
  · obtain rfl : n = m := by omega
    rw [hv] at h3; injection h3 with h3; subst h3
    refine .inr ⟨n, v, rfl, by omega, hv, h4, fun j u hj hu hcu => ?_, fun j u hn hj hu hcu => ?_⟩
    · by_cases e : j = i
      · subst e; rw [hw] at hu; injection hu with hu; subst hu; exact totP.asy hl
      · exact h5 j u (by omega) hu hcu
    · by_cases e : j = i
      · subst e; rw [hw] at hu; injection hu with hu; subst hu; exact hl
      · exact h6 j u hn (by omega) hu hcu
theorem BestW.lt {ws : List Wr} {pv : Option Plc} {i : Nat} {b : Int} (h : BestW ws pv i b) : b = -1 ∨ ∃ n : Nat, b = (n : Int) ∧ n < i := by
  rcases h with ⟨h, _⟩ | ⟨n, _, h, h2, _⟩
  · exact .inl h
  · exact .inr ⟨n, h, h2⟩
theorem findW_last {ws : List Wr} {n : Nat} {v : Wr} (hv : ws[n]? = some v) (h : ∀ j w, n < j → ws[j]? = some w → w.plc ≠ v.plc) : findW ws v.plc = some v := by
  induction ws using snocInd with
  | h0 => cases hv
  | h1 ws u ih =>
    rw [findW_snoc]
    have hn := (List.getElem?_eq_some_iff.1 hv).1
    simp only [List.length_append, List.length_cons, List.length_nil] at hn
    by_cases e : n = ws.length
    · subst e
      rw [List.getElem?_append_right (Nat.le_refl _), Nat.sub_self] at hv
      simp at hv
      rw [hv, if_pos rfl]
    · rw [if_neg (h ws.length u (by omega) (by rw [List.getElem?_append_right (Nat.le_refl _), Nat.sub_self]; rfl))]
      rw [List.getElem?_append_left (by omega)] at hv
      refine ih hv fun j w hj hw => h j w hj ?_
      rw [List.getElem?_append_left (List.getElem?_eq_some_iff.1 hw).1]; exact hw
def prevW (ws : List Wr) (j : Nat) : Option Plc := ((lastW ws).take j).getLast?.map Wr.plc
theorem cand_drop {ws : List Wr} {j : Nat} (hj : j ≤ (lastW ws).length) {v : Wr} (hv : v ∈ lastW ws) : candW (prevW ws j) v = true ↔ v ∈ (lastW ws).drop j := by
  have hs := last_srt ws
  unfold prevW candW
  by_cases h0 : j = 0
  · subst h0; simpa using hv
  · have hlt : j - 1 < (lastW ws).length := by omega
    have e : ((lastW ws).take j).getLast? = some (lastW ws)[j - 1] := by
      rw [List.getLast?_eq_getElem?, List.length_take, Nat.min_eq_left hj, List.getElem?_take_of_lt (by omega), List.getElem?_eq_getElem hlt]
    rw [e]
    simp only [Option.map_some]
    obtain ⟨i, hi, rfl⟩ := List.mem_iff_getElem.1 hv
    constructor
    · intro h
      have hij : j ≤ i := by
        rcases Nat.lt_trichotomy i (j - 1) with h2 | h2 | h2
        · have := totP.asy (srtE_get hs h2 hlt)
          rw [h] at this; cases this
        · subst h2; rw [totP.irr] at h; cases h
        · omega
      exact List.mem_iff_getElem.2 ⟨i - j, by simp; omega, by simp [Nat.add_sub_cancel' hij]⟩
    · intro h
      obtain ⟨k, hk, e2⟩ := List.mem_iff_getElem.1 h
      simp only [List.length_drop] at hk
      rw [List.getElem_drop] at e2
      rw [← e2]
      exact srtE_get hs (by omega) (by omega)
theorem find_of_mem {ws : List Wr} {w : Wr} (h : w ∈ ws) : ∃ v, findW ws w.plc = some v ∧ v ∈ lastW ws := by
  cases hf : findW ws w.plc with
  | none => exact absurd rfl (findE_none.1 hf w (List.mem_reverse.2 h))
  | some v => exact ⟨v, rfl, (findE_some ((last_find ws _).trans hf)).1⟩
theorem BestW.nothing {ws : List Wr} {j : Nat} (h : BestW ws (prevW ws j) ws.length (-1)) (hj : j ≤ (lastW ws).length) : j = (lastW ws).length := by
  rcases h with ⟨_, h⟩ | ⟨n, _, h, _⟩
  · by_cases e : j = (lastW ws).length
    · exact e
    · exfalso
      have hlt : j < (lastW ws).length := by omega
      have hm := List.getElem_mem hlt
      obtain ⟨i, hi, e2⟩ := List.mem_iff_getElem.1 (last_mem hm)
      have := h i _ hi (List.getElem?_eq_getElem hi)
      have hmd : (lastW ws)[j] ∈ (lastW ws).drop j := List.mem_iff_getElem.2 ⟨0, by simp; omega, by simp⟩
      rw [e2, (cand_drop hj hm).2 hmd] at this
      cases this
  · omega
theorem BestW.found {ws : List Wr} {j n : Nat} (h : BestW ws (prevW ws j) ws.length (n : Int)) (hj : j ≤ (lastW ws).length) : ∃ hj' : j < (lastW ws).length, ws[n]? = some (lastW ws)[j] := by
  rcases h with ⟨h, _⟩ | ⟨m, v, h1, h2, h3, h4, h5, h6⟩
  · omega
  · obtain rfl : n = m := by omega
    have hvm : v ∈ ws := List.mem_of_getElem? h3
    have hf : findW ws v.plc = some v := findW_last h3 fun i w hi hw e => by
      have hil := (List.getElem?_eq_some_iff.1 hw).1
      have hcw : candW (prevW ws j) w = true := by
        rw [← h4]; unfold candW; rw [e]
      have := h6 i w hi hil hw hcw
      rw [e, totP.irr] at this; cases this
    have hvl : v ∈ lastW ws := (findE_some ((last_find ws _).trans hf)).1
    have hd := (cand_drop hj hvl).1 h4
    obtain ⟨k, hk, e2⟩ := List.mem_iff_getElem.1 hd
    simp only [List.length_drop] at hk
    rw [List.getElem_drop] at e2
    have hlt : j < (lastW ws).length := by omega
    refine ⟨hlt, ?_⟩
    by_cases e0 : k = 0
    · subst e0
      rw [h3, ← e2]; rfl
    · exfalso
      have hm := List.getElem_mem hlt
      obtain ⟨i, hi, e3⟩ := List.mem_iff_getElem.1 (last_mem hm)
      have hmd : (lastW ws)[j] ∈ (lastW ws).drop j := List.mem_iff_getElem.2 ⟨0, by simp; omega, by simp⟩
      have hc := (cand_drop hj hm).2 hmd
      have := h5 i _ hi (by rw [List.getElem?_eq_getElem hi, e3]) hc
      rw [← e2, srtE_get (last_srt ws) (show j < j + k by omega) (by omega)] at this
      cases this
theorem places_last {ws : List Wr} {ps : List Plc} (hs : SrtE ltP id ps) (hm : ∀ p, p ∈ ps ↔ ∃ w ∈ ws, w.plc = p) : ps = (lastW ws).map Wr.plc := by
  have hs2 : SrtE ltP id ((lastW ws).map Wr.plc) := List.pairwise_map.2 (last_srt ws)
  refine srtE_ext totP hs hs2 fun p => ?_
  have hmem : p ∈ ps ↔ p ∈ (lastW ws).map Wr.plc := by
    rw [hm]
    constructor
    · rintro ⟨w, hw, rfl⟩
      obtain ⟨v, h1, h2⟩ := find_of_mem hw
      exact List.mem_map.2 ⟨v, h2, (findE_some h1).2⟩
    · intro h
      obtain ⟨v, hv, e⟩ := List.mem_map.1 h
      exact ⟨v, last_mem hv, e⟩
  by_cases h : p ∈ ps
  · rw [show p = id p from rfl, findE_mem totP hs h, findE_mem totP hs2 (hmem.1 h)]
  · rw [findE_none.2 fun y hy e => h (by rw [← e]; exact hy), findE_none.2 fun y hy e => h (hmem.2 (by rw [← e]; exact hy))]
end Go.Proofs.Ytjbdkhddnblieaa
namespace Go.Proofs.Ytjbdkhddnblieaa
open Go.RowKit Go.Shelf
set_option maxRecDepth 100000 in
set_option maxHeartbeats 4000000 in
theorem refMay_any (w : World) {S : Nat → Prop} {v : Value} {x : Wr} (hx : RdWr S w v x) :
    Calls Try.prog 33 #[v] w fun e w' => e = .returned (.bool (decide (mayW x))) ∧ Below w.heap.size w w' := by
  obtain ⟨a, c, a2, c2, rfl, hk1, hk2, ht⟩ := hx
  obtain ⟨_, hc1, hm1⟩ := hk1.len
  obtain ⟨_, hc2, hm2⟩ := hk2.len
  unfold maxLen at hm1 hm2
  unfold W64 at ht
  by_cases h1 : 0 ≤ x.table
  · skip
    by_cases h2 : x.table ≤ 3
    · skip
      by_cases h3 : (x.key.length : Int) ≤ 16
      · skip
        by_cases h4 : (x.val.length : Int) ≤ 32
        · skip
          cases hg : x.gone with
          | false =>
            have hk := Lib.hid (show decide (mayW x) = true from decide_eq_true ⟨h1, h2, by omega, by omega, fun h => by rw [hg] at h; cases h⟩)
            go_enter Try.func33, Try.ntmps33
            go_wp2
            go_ret
            exact ⟨by rw [hk.out]; first | rfl | simp [*, Lib.hid], (Below.refl _ _).alloc (Nat.le_refl _) _⟩
          | true =>
            by_cases h5 : x.val.length = 0
            · have h5b : ((x.val.length : Int) == 0) = true := beq_iff_eq.2 (by omega)
              have h5c := Lib.hid h5
              clear h5
              have hk := Lib.hid (show decide (mayW x) = true from decide_eq_true ⟨h1, h2, by omega, by omega, fun _ => List.eq_nil_of_length_eq_zero h5c.out⟩)
              go_enter Try.func33, Try.ntmps33
              go_wp2
              go_ret
              exact ⟨by rw [hk.out]; first | rfl | simp [*, Lib.hid], (Below.refl _ _).alloc (Nat.le_refl _) _⟩
            · have h5b : ((x.val.length : Int) == 0) = false := beq_eq_false_iff_ne.2 (by omega)
              have hk := Lib.hid (show decide (mayW x) = false from decide_eq_false (fun h => h5 (by rw [h.2.2.2.2 hg]; rfl)))
              go_enter Try.func33, Try.ntmps33
              go_wp2
              go_ret
              exact ⟨by rw [hk.out]; first | rfl | simp [*, Lib.hid], (Below.refl _ _).alloc (Nat.le_refl _) _⟩
        · skip
          have hk := Lib.hid (show decide (mayW x) = false from decide_eq_false (fun h => h4 (by have := h.2.2.2.1; omega)))
          go_enter Try.func33, Try.ntmps33
          go_wp2
          go_ret
          exact ⟨by rw [hk.out]; first | rfl | simp [*, Lib.hid], (Below.refl _ _).alloc (Nat.le_refl _) _⟩
      · skip
        have hk := Lib.hid (show decide (mayW x) = false from decide_eq_false (fun h => h3 (by have := h.2.2.1; omega)))
        go_enter Try.func33, Try.ntmps33
        go_wp2
        go_ret
        exact ⟨by rw [hk.out]; first | rfl | simp [*, Lib.hid], (Below.refl _ _).alloc (Nat.le_refl _) _⟩
    · skip
      have hk := Lib.hid (show decide (mayW x) = false from decide_eq_false (fun h => h2 (h.2.1)))
      go_enter Try.func33, Try.ntmps33
      go_wp2
      go_ret
      exact ⟨by rw [hk.out]; first | rfl | simp [*, Lib.hid], (Below.refl _ _).alloc (Nat.le_refl _) _⟩
  · skip
    have hk := Lib.hid (show decide (mayW x) = false from decide_eq_false (fun h => h1 (h.1)))
    go_enter Try.func33, Try.ntmps33
    go_wp2
    go_ret
    exact ⟨by rw [hk.out]; first | rfl | simp [*, Lib.hid], (Below.refl _ _).alloc (Nat.le_refl _) _⟩
end Go.Proofs.Ytjbdkhddnblieaa
namespace Go.Proofs.Ytjbdkhddnblieaa
open Go.RowKit Go.Shelf
def shP (l : List Pq) : Prop := l.length ≤ 100 ∧ ∀ x ∈ l, x.key.length ≤ 100 ∧ x.val.length ≤ 100
instance (l : List Pq) : Decidable (shP l) := by unfold shP; exact inferInstance
def fewD (d : Dl) : Prop := d.writes.length ≤ 30 ∧ d.marks.length ≤ 30 ∧ ∀ x ∈ d.writes, x.key.length ≤ 100 ∧ x.val.length ≤ 100
instance (d : Dl) : Decidable (fewD d) := by unfold fewD; exact inferInstance
theorem all_succ {α : Type} {P : α → Prop} {l : List α} {k : Nat} (hlt : k < l.length) (h : ∀ x ∈ l.take k, P x) (hk : P l[k]) : ∀ x ∈ l.take (k + 1), P x := fun x hx => by
  rw [List.take_succ_eq_append_getElem hlt] at hx
  rcases List.mem_append.1 hx with hx | hx
  · exact h x hx
  · simp at hx; rw [hx]; exact hk
set_option maxRecDepth 100000 in
set_option maxHeartbeats 4000000 in
theorem short_any (w : World) {S : Nat → Prop} {a : Option Addr} {n c : Nat} {l : List Pq} (hl : RdL Elt.pq S w (.slice a n c) l) :
    Calls Try.prog 19 #[.slice a n c] w fun e w' => e = .returned (.bool (decide (shP l))) ∧ Below w.heap.size w w' := by
  obtain ⟨rfl, hnc, hcm⟩ := hl.len
  have hlm : l.length ≤ 9223372036854775807 := by unfold maxLen at hcm; omega
  have q := Below.refl w.heap.size w
  rcases Nat.lt_or_ge 100 l.length with h1 | h1
  · have d1 : (100 < l.length) = True := eq_true h1
    have HK := Lib.hid (show decide (shP l) = false from decide_eq_false fun h => by have := h.1; omega)
    go_enter Try.func19, Try.ntmps19
    go_wp2_with fail
    go_ret
    exact ⟨by rw [HK.out]; rfl, q⟩
  have d1 : (100 < l.length) = False := eq_false (by omega)
  go_enter Try.func19, Try.ntmps19
  go_upto_region 4 with (fail)
  go_loopw [3] (fun iv wr => ∃ (k : Nat), iv = .int .i64 k ∧ k ≤ l.length ∧ (∀ x ∈ l.take k, x.key.length ≤ 100 ∧ x.val.length ≤ 100) ∧ Below w.heap.size w wr)
    (fun i _ => l.length - (intOf i).toNat)
  case atStart => exact ⟨0, rfl, Nat.zero_le _, by simp, q⟩
  case round =>
    clear q
    obtain ⟨k, rfl, hkl, hall, q⟩ := hrel
    rcases Nat.lt_or_ge k l.length with hlt | hge
    · obtain ⟨b, off, A, C, A2, C2, rfl, hb, c0, c1, hk1, hk2⟩ := (hl.below q).pq k hlt
      by_cases h2 : 100 < l[k].key.length
      · have d2 : (100 < l[k].key.length) = True := eq_true h2
        have hno := Lib.hid (show decide (shP l) = false from decide_eq_false fun h => by have := (h.2 _ (List.getElem_mem hlt)).1; omega)
        clear hall
        go_wp2_with fail
        go_ret
        exact ⟨by rw [hno.out]; rfl, q⟩
      · have d2 : (100 < l[k].key.length) = False := eq_false h2
        by_cases h3 : 100 < l[k].val.length
        · have d3 : (100 < l[k].val.length) = True := eq_true h3
          have hno := Lib.hid (show decide (shP l) = false from decide_eq_false fun h => by have := (h.2 _ (List.getElem_mem hlt)).2; omega)
          clear hall
          go_wp2_with fail
          go_ret
          exact ⟨by rw [hno.out]; rfl, q⟩
        · have d3 : (100 < l[k].val.length) = False := eq_false h3
          have hall2 := Lib.hid (all_succ hlt hall ⟨by omega, by omega⟩)
          clear hall
          go_wp2_with fail
          go_roundw
          case rel => exact ⟨k + 1, by go_num, by omega, hall2.out, q⟩
          case measure => simp [intOf]; omega
    · obtain rfl : k = l.length := by omega
      rw [List.take_length] at hall
      have hno := Lib.hid (show decide (shP l) = true from decide_eq_true ⟨h1, hall⟩)
      clear hall
      go_wp2_with fail
      go_ret
      exact ⟨by rw [hno.out]; rfl, q⟩
set_option maxRecDepth 100000 in
set_option maxHeartbeats 4000000 in
theorem few_any (w : World) {S : Nat → Prop} {v : Value} {d : Dl} (h : RdDl S w v d) :
    Calls Try.prog 9 #[v] w fun e w' => e = .returned (.bool (decide (fewD d))) ∧ Below w.heap.size w w' := by
  obtain ⟨a, c, a2, c2, rfl, hw, hm⟩ := h
  obtain ⟨_, hc1, hm1⟩ := hw.len
  obtain ⟨_, hc2, hm2⟩ := hm.len
  have hl1 : d.writes.length ≤ 9223372036854775807 := by unfold maxLen at hm1; omega
  have hl2 : d.marks.length ≤ 9223372036854775807 := by unfold maxLen at hm2; omega
  obtain ⟨W, hW⟩ : ∃ W, W = w.alloc (.cells #[.slice a d.writes.length c, .slice a2 d.marks.length c2] 25) := ⟨_, rfl⟩
  have q : Below w.heap.size w W := by rw [hW]; exact (Below.refl _ _).alloc (Nat.le_refl _) _
  have hB : DuoV W w.heap.size 25 (.slice a d.writes.length c) (.slice a2 d.marks.length c2) := by rw [hW]; exact DuoV.new _ _ _ _
  go_enter Try.func9, Try.ntmps9
  go_upto_region 1 with (fail)
  rw [← hW]
  clear hW
  have b0 := hB.cell0
  have b1 := hB.cell1
  rcases Nat.lt_or_ge 30 d.writes.length with h1 | h1
  · have d1 : (30 < d.writes.length) = True := eq_true h1
    have HK := Lib.hid (show decide (fewD d) = false from decide_eq_false fun h => by have := h.1; omega)
    go_wp2_with fail
    go_ret
    exact ⟨by rw [HK.out]; rfl, q⟩
  have d1 : (30 < d.writes.length) = False := eq_false (by omega)
  rcases Nat.lt_or_ge 30 d.marks.length with h2 | h2
  · have d2 : (30 < d.marks.length) = True := eq_true h2
    have HK := Lib.hid (show decide (fewD d) = false from decide_eq_false fun h => by have := h.2.1; omega)
    go_wp2_with fail
    go_ret
    exact ⟨by rw [HK.out]; rfl, q⟩
  have d2 : (30 < d.marks.length) = False := eq_false (by omega)
  go_upto_region 4 with (fail)
  go_loopw [3] (fun iv wr => ∃ (k : Nat), iv = .int .i64 k ∧ k ≤ d.writes.length ∧ (∀ x ∈ d.writes.take k, x.key.length ≤ 100 ∧ x.val.length ≤ 100) ∧ Below w.heap.size w wr ∧ DuoV wr w.heap.size 25 (.slice a d.writes.length c) (.slice a2 d.marks.length c2))
    (fun i _ => d.writes.length - (intOf i).toNat)
  case atStart => exact ⟨0, rfl, Nat.zero_le _, by simp, q, hB⟩
  case round =>
    clear q hB b0 b1
    obtain ⟨k, rfl, hkl, hall, q, hB⟩ := hrel
    have b0 := hB.cell0
    have b1 := hB.cell1
    rcases Nat.lt_or_ge k d.writes.length with hlt | hge
    · obtain ⟨b, off, A, C, A2, C2, rfl, hb, c0, c1, c2, c3, hk1, hk2, hw64⟩ := (hw.below q).wr k hlt
      by_cases h3 : 100 < d.writes[k].key.length
      · have d3 : (100 < d.writes[k].key.length) = True := eq_true h3
        have hno := Lib.hid (show decide (fewD d) = false from decide_eq_false fun h => by have := (h.2.2 _ (List.getElem_mem hlt)).1; omega)
        clear hall
        go_wp2_with fail
        go_ret
        exact ⟨by rw [hno.out]; rfl, q⟩
      · have d3 : (100 < d.writes[k].key.length) = False := eq_false h3
        by_cases h4 : 100 < d.writes[k].val.length
        · have d4 : (100 < d.writes[k].val.length) = True := eq_true h4
          have hno := Lib.hid (show decide (fewD d) = false from decide_eq_false fun h => by have := (h.2.2 _ (List.getElem_mem hlt)).2; omega)
          clear hall
          go_wp2_with fail
          go_ret
          exact ⟨by rw [hno.out]; rfl, q⟩
        · have d4 : (100 < d.writes[k].val.length) = False := eq_false h4
          have hall2 := Lib.hid (all_succ hlt hall ⟨by omega, by omega⟩)
          clear hall
          go_wp2_with fail
          go_roundw
          case rel => exact ⟨k + 1, by go_num, by omega, hall2.out, q, hB⟩
          case measure => simp [intOf]; omega
    · obtain rfl : k = d.writes.length := by omega
      rw [List.take_length] at hall
      have hno := Lib.hid (show decide (fewD d) = true from decide_eq_true ⟨h1, h2, hall⟩)
      clear hall
      go_wp2_with fail
      go_ret
      exact ⟨by rw [hno.out]; rfl, q⟩
end Go.Proofs.Ytjbdkhddnblieaa
namespace Go.Proofs.Ytjbdkhddnblieaa
open Go.RowKit Go.Shelf
set_option maxRecDepth 100000 in
set_option maxHeartbeats 8000000 in
theorem rCheck_any (w : World) {S : Nat → Prop} {v : Value} {d : Dl} (h : RdDl S w v d) :
    Calls Try.prog 18 #[v] w fun e w' => e = .returned (.bool (decide (okD d))) ∧ Below w.heap.size w w' := by
  obtain ⟨a, c, a2, c2, rfl, hw, hm⟩ := h
  obtain ⟨_, hc1, hm1⟩ := hw.len
  obtain ⟨_, hc2, hm2⟩ := hm.len
  have hl1 : d.writes.length ≤ 9223372036854775807 := by unfold maxLen at hm1; omega
  have hl2 : d.marks.length ≤ 9223372036854775807 := by unfold maxLen at hm2; omega
  obtain ⟨W, hW⟩ : ∃ W, W = w.alloc (.cells #[.slice a d.writes.length c, .slice a2 d.marks.length c2] 25) := ⟨_, rfl⟩
  have q : Below w.heap.size w W := by rw [hW]; exact (Below.refl _ _).alloc (Nat.le_refl _) _
  have hB : DuoV W w.heap.size 25 (.slice a d.writes.length c) (.slice a2 d.marks.length c2) := by rw [hW]; exact DuoV.new _ _ _ _
  go_enter Try.func18, Try.ntmps18
  go_upto_region 1 with (fail)
  rw [← hW]
  clear hW
  have b0 := hB.cell0
  have b1 := hB.cell1
  rcases Nat.lt_or_ge 20 d.writes.length with h1 | h1
  · have d1 : (20 < d.writes.length) = True := eq_true h1
    have HK := Lib.hid (show decide (okD d) = false from decide_eq_false fun h => by have := h.1; omega)
    go_wp2_with fail
    go_ret
    exact ⟨by rw [HK.out]; rfl, q⟩
  have d1 : (20 < d.writes.length) = False := eq_false (by omega)
  rcases Nat.lt_or_ge 4 d.marks.length with h2 | h2
  · have d2 : (4 < d.marks.length) = True := eq_true h2
    have HK := Lib.hid (show decide (okD d) = false from decide_eq_false fun h => by have := h.2.1; omega)
    go_wp2_with fail
    go_ret
    exact ⟨by rw [HK.out]; rfl, q⟩
  have d2 : (4 < d.marks.length) = False := eq_false (by omega)
  go_upto_region 4 with (fail)
  go_loopw [3, 4] (fun iv _ wr => ∃ (k : Nat), iv = .int .i64 k ∧ k ≤ d.writes.length ∧ (∀ x ∈ d.writes.take k, mayW x) ∧ Below w.heap.size w wr ∧ DuoV wr w.heap.size 25 (.slice a d.writes.length c) (.slice a2 d.marks.length c2))
    (fun i _ _ => d.writes.length - (intOf i).toNat)
  case atStart => exact ⟨0, rfl, Nat.zero_le _, by simp, q, hB⟩
  case round =>
    clear q hB b0 b1
    obtain ⟨k, rfl, hkl, hall, q, hB⟩ := hrel
    have b0 := hB.cell0
    have b1 := hB.cell1
    rcases Nat.lt_or_ge k d.writes.length with hlt | hge
    · obtain ⟨b, off, A, C, A2, C2, rfl, hb, c0, c1, c2, c3, hk1, hk2, hw64⟩ := (hw.below q).wr k hlt
      have hx : RdWr S wr (.agg #[.int .i64 d.writes[k].table, .slice A d.writes[k].key.length C, .bool d.writes[k].gone, .slice A2 d.writes[k].val.length C2]) d.writes[k] := ⟨A, C, A2, C2, rfl, hk1, hk2, hw64⟩
      go_upto_region 6 with (fail)
      go_wp2_with fail
      refine (refMay_any wr hx).mono ?_
      rintro e w1 ⟨rfl, hb1⟩
      replace q := q.trans (hb1.mono q.size)
      replace hB := hB.below hb1 hB.lt
      clear b0 b1 c0 c1 c2 c3 hk1 hk2 hx hb1
      have b0 := hB.cell0
      have b1 := hB.cell1
      by_cases h3 : mayW d.writes[k]
      · have hall2 := Lib.hid (all_succ hlt hall h3)
        have d3 : decide (mayW d.writes[k]) = true := decide_eq_true h3
        clear hall h3
        go_wp2_with fail
        go_roundw
        case rel => exact ⟨k + 1, by go_num, by omega, hall2.out, q, hB⟩
        case measure => simp [intOf]; omega
      · have d3 : decide (mayW d.writes[k]) = false := decide_eq_false h3
        have hno := Lib.hid (show decide (okD d) = false from decide_eq_false fun h => h3 (h.2.2.1 _ (List.getElem_mem hlt)))
        clear hall h3
        go_wp2_with fail
        go_ret
        exact ⟨by rw [hno.out]; rfl, q⟩
    · obtain rfl : k = d.writes.length := by omega
      rw [List.take_length] at hall
      replace hall := Lib.hid hall
      go_upto_region 10 with (fail)
      go_loopw [5] (fun iv wr => ∃ (k : Nat), iv = .int .i64 k ∧ k ≤ d.marks.length ∧ okM d.writes.length 0 (d.marks.take k) ∧ Below w.heap.size w wr ∧ DuoV wr w.heap.size 25 (.slice a d.writes.length c) (.slice a2 d.marks.length c2))
        (fun i _ => d.marks.length - (intOf i).toNat)
      case atStart => exact ⟨0, rfl, Nat.zero_le _, trivial, q, hB⟩
      case round =>
        clear q hB b0 b1
        obtain ⟨k, rfl, hkl, hok, q, hB⟩ := hrel
        have b0 := hB.cell0
        have b1 := hB.cell1
        rcases Nat.lt_or_ge k d.marks.length with hlt | hge
        · obtain ⟨b, off, rfl, hb, c0, hi⟩ := (hm.below q).num k hlt
          obtain ⟨m, hm0⟩ : ∃ m, m = d.marks[k] := ⟨_, rfl⟩
          have hts := Lib.hid (okM_take_succ (n := d.writes.length) (l := 0) hlt)
          unfold W64 at hi
          rcases Nat.eq_zero_or_pos k with hk0 | hk0
          · have hkp : (0 < k) = False := eq_false (by omega)
            replace hk0 := Lib.hid hk0
            rw [← hm0] at c0 hi
            by_cases h4 : m < 0
            · have d4 : decide (m < 0) = true := decide_eq_true h4
              have HK := Lib.hid (show decide (okD d) = false from decide_eq_false fun h => by
                have h5 := (hts.out.1 (okM_take h.2.2.2 _)).2.1
                rw [if_pos hk0.out, ← hm0] at h5
                omega)
              clear hok hts hm0 h4
              go_upto_region 12 with (fail)
              go_quiet (fail)
              go_wp2_with fail
              go_ret
              exact ⟨by rw [HK.out]; rfl, Go.Proofs.Ytjbdkhddnblieaa.Below.drewN q _⟩
            · have d4 : decide (m < 0) = false := decide_eq_false h4
              by_cases h5 : (d.writes.length : Int) < m
              · have d5 : decide ((d.writes.length : Int) < m) = true := decide_eq_true h5
                have HK := Lib.hid (show decide (okD d) = false from decide_eq_false fun h => by
                  have h5 := (hts.out.1 (okM_take h.2.2.2 _)).2.2
                  rw [← hm0] at h5
                  omega)
                clear hok hts hm0 h4 h5
                go_upto_region 12 with (fail)
                go_quiet (fail)
                go_wp2_with fail
                go_ret
                exact ⟨by rw [HK.out]; rfl, Go.Proofs.Ytjbdkhddnblieaa.Below.drewN q _⟩
              · have d5 : decide ((d.writes.length : Int) < m) = false := decide_eq_false h5
                have hok2 := Lib.hid (show okM d.writes.length 0 (d.marks.take (k + 1)) from hts.out.2 ⟨hok, by rw [if_pos hk0.out, ← hm0]; omega, by rw [← hm0]; omega⟩)
                clear hok hts h4 h5 hm0
                go_upto_region 12 with (fail)
                go_quiet (fail)
                go_wp2_with fail
                go_roundw
                case rel => exact ⟨k + 1, by go_num, by omega, hok2.out, Go.Proofs.Ytjbdkhddnblieaa.Below.drewN q _, hB⟩
                case measure => simp [intOf]; omega
          · obtain ⟨b2, off2, ee, hb2, c02, hi2⟩ := (hm.below q).num (k - 1) (by omega)
            obtain ⟨rfl, rfl⟩ : b2 = b ∧ off2 = off := by simpa using ee.symm
            obtain ⟨z, hz0⟩ : ∃ z, z = d.marks[k - 1]'(by omega) := ⟨_, rfl⟩
            have hcur : (if k = 0 then (0 : Int) else d.marks[k - 1]'(by omega)) = z := by rw [if_neg (by omega), hz0]
            rw [← hm0] at c0 hi
            rw [← hz0] at c02 hi2
            unfold W64 at hi2
            have hkz : ((k : Int) - 1) = ((k - 1 : Nat) : Int) := by omega
            have hkp : (0 < k) = True := eq_true hk0
            clear ee hb2
            by_cases h4 : m < 0
            · have d4 : decide (m < 0) = true := decide_eq_true h4
              have hz3 : okM d.writes.length 0 (d.marks.take k) → 0 ≤ z := fun h => by
                have h7 := (okM_get h (i := k - 1) (by simp; omega)).1
                rw [List.getElem_take] at h7
                rw [hz0]; exact h7
              have HK := Lib.hid (show decide (okD d) = false from decide_eq_false fun h => by
                have h5 := (hts.out.1 (okM_take h.2.2.2 _)).2.1
                have h6 := hz3 hok
                rw [hcur, ← hm0] at h5
                omega)
              clear hok hts hm0 h4 hz0 hcur hz3
              go_upto_region 12 with (fail)
              go_quiet (fail)
              go_wp2_with fail
              go_ret
              exact ⟨by rw [HK.out]; rfl, Go.Proofs.Ytjbdkhddnblieaa.Below.drewN q _⟩
            · have d4 : decide (m < 0) = false := decide_eq_false h4
              by_cases h5 : (d.writes.length : Int) < m
              · have d5 : decide ((d.writes.length : Int) < m) = true := decide_eq_true h5
                have HK := Lib.hid (show decide (okD d) = false from decide_eq_false fun h => by
                  have h5 := (hts.out.1 (okM_take h.2.2.2 _)).2.2
                  rw [← hm0] at h5
                  omega)
                clear hok hts hm0 h4 h5 hz0 hcur
                go_upto_region 12 with (fail)
                go_quiet (fail)
                go_wp2_with fail
                go_ret
                exact ⟨by rw [HK.out]; rfl, Go.Proofs.Ytjbdkhddnblieaa.Below.drewN q _⟩
              · have d5 : decide ((d.writes.length : Int) < m) = false := decide_eq_false h5
                by_cases h6 : m < z
                · have d6 : decide (m < z) = true := decide_eq_true h6
                  have HK := Lib.hid (show decide (okD d) = false from decide_eq_false fun h => by
                    have h5 := (hts.out.1 (okM_take h.2.2.2 _)).2.1
                    rw [hcur, ← hm0] at h5
                    omega)
                  clear hok hts hm0 h4 h5 h6 hz0 hcur
                  go_upto_region 12 with (fail)
                  go_quiet (fail)
                  go_wp2_with fail
                  go_ret
                  exact ⟨by rw [HK.out]; rfl, Go.Proofs.Ytjbdkhddnblieaa.Below.drewN q _⟩
                · have d6 : decide (m < z) = false := decide_eq_false h6
                  have hok2 := Lib.hid (show okM d.writes.length 0 (d.marks.take (k + 1)) from hts.out.2 ⟨hok, by rw [hcur, ← hm0]; omega, by rw [← hm0]; omega⟩)
                  clear hok hts h4 h5 hm0 h6 hz0 hcur
                  go_upto_region 12 with (fail)
                  go_quiet (fail)
                  go_wp2_with fail
                  go_roundw
                  case rel => exact ⟨k + 1, by go_num, by omega, hok2.out, Go.Proofs.Ytjbdkhddnblieaa.Below.drewN q _, hB⟩
                  case measure => simp [intOf]; omega
        · obtain rfl : k = d.marks.length := by omega
          rw [List.take_length] at hok
          have HK := Lib.hid (show decide (okD d) = true from decide_eq_true ⟨h1, h2, hall.out, hok⟩)
          clear hok
          go_wp2_with fail
          go_ret
          exact ⟨by rw [HK.out]; rfl, q⟩
end Go.Proofs.Ytjbdkhddnblieaa
namespace Go.Proofs.Ytjbdkhddnblieaa
open Go.RowKit Go.Shelf
section
variable {α : Type} {P : Program} {T E S t : TypeId} {ops : Array Oper} {rest : List Oper} {o : Oper} {a : Act} {Q : Exit → Act → World → Prop} {w : World} {K : Act → World → Prop}
theorem wp_buildZ (hP : ByP P T E S) (ho : o.op = .buildSlice T 0 #[]) (h : ∀ w', Fresh E w w' (.slice (some ⟨w.heap.size, 0, none⟩) 0 0) [] → K (a.put o.dst (.slice (some ⟨w.heap.size, 0, none⟩) 0 0)) w') : o.wp P a w K Q := by
  have hrun := run_build hP w [] (by simp)
  have hf := fresh_build E w [] (by simp)
  simp only [bv, List.map_nil, List.zipIdx_nil, List.length_nil] at hrun hf
  unfold Oper.wp execOp
  simp only [ho, Sem.run_bind, Sem.run_pure, Result.andThen_ok, List.map_toArray, List.map_nil, hrun]
  exact h _ hf
theorem wp_build4 (hP : StP P t 4) {x y z s : Operand} {u v r q : Value} (ho : o.op = .build t #[(0, x), (1, y), (2, z), (3, s)]) (hx : a.eval x = u) (hy : a.eval y = v) (hz : a.eval z = r) (hs : a.eval s = q) (hu1 : u.cells = #[u]) (hv1 : v.cells = #[v]) (hr1 : r.cells = #[r]) (hq1 : q.cells = #[q]) (h : K (a.put o.dst (.agg #[u, v, r, q])) w) : o.wp P a w K Q := by
  obtain ⟨fs, hu, hfs, hf⟩ := hP.hu
  obtain ⟨f0, g0, o0, s0⟩ := hf 0 (by omega)
  obtain ⟨f1, g1, o1, s1⟩ := hf 1 (by omega)
  obtain ⟨f2, g2, o2, s2⟩ := hf 2 (by omega)
  obtain ⟨f3, g3, o3, s3⟩ := hf 3 (by omega)
  obtain ⟨zs, hzs, hz0⟩ := hP.zero
  obtain ⟨l⟩ := fs
  obtain ⟨zl⟩ := zs
  match l, hfs with
  | [k0, k1, k2, k3], _ =>
    match zl, hzs with
    | [z0, z1, z2, z3], _ =>
      simp at g0 g1 g2 g3
      subst g0; subst g1; subst g2; subst g3
      refine wp_run' ?_ h
      simp only [execOp, ho, List.map_toArray, List.map_cons, List.map_nil, hx, hy, hz, hs]
      simp [Instr.build, run_underlying hu, hz0, run_sizeOf' s0, run_sizeOf' s1, run_sizeOf' s2, run_sizeOf' s3, Instr.fill, hu1, hv1, hr1, hq1, o0, o1, o2, o3, show (Value.agg #[z0, z1, z2, z3]).cells = #[z0, z1, z2, z3] from rfl]
end
def pZb (W : World) (bz : Nat) (hbz : bz < W.heap.size) : SGn (fun A B => A.grownBy B (some bz)) :=
  ⟨fun V v => ∃ g, v = .slice (some g) 0 0 ∧ Own 5 W.heap.size V v [], fun _ _ _ ⟨g, e, h⟩ hb => ⟨g, e, h.below hb⟩,
    fun _ _ _ ⟨g, e, n, h⟩ hk => ⟨g, e, n, h.1, h.2.imp id fun ⟨g, cap, cur, hv, h1, hg, r⟩ => ⟨g, cap, cur, hv, h1, (hk.block g (Array.getElem?_eq_some_iff.1 hg).1 (fun e => by injection e with e; omega)).trans hg, r⟩⟩⟩
def pWr (W : World) (bz : Nat) (hbz : bz < W.heap.size) (x : Wr) : SGn (fun A B => A.grownBy B (some bz)) :=
  ⟨fun V v => RdWr (fun k => W.heap.size ≤ k ∧ k < V.heap.size) V v x, fun _ _ _ hr hb => (hr.below hb).weak fun _ hk => ⟨hk.1, Nat.lt_of_lt_of_le hk.2 hb.size⟩,
    fun _ _ _ ⟨a, c, a2, c2, e, h1, h2, h3⟩ hk => ⟨a, c, a2, c2, e, (h1.keep fun k hh => hk.block k hh.2 (fun e => by injection e with e; have := hh.1; omega)).weak fun _ hh => ⟨hh.1, Nat.lt_of_lt_of_le hh.2 hk.size⟩, (h2.keep fun k hh => hk.block k hh.2 (fun e => by injection e with e; have := hh.1; omega)).weak fun _ hh => ⟨hh.1, Nat.lt_of_lt_of_le hh.2 hk.size⟩, h3⟩⟩
theorem NewS.own {W V : World} {a : Option Addr} {k c : Nat} {xs : List UInt8} (h : Own 5 W.heap.size V (.slice a k c) xs) : NewS W V (.slice a k c) xs := by
  obtain rfl : k = xs.length := h.len
  exact ⟨a, c, rfl, h.rdS⟩
def WriJ (W : World) (b : Nat) (x : Wr) : List Value → World → Prop
  | [], V => Below W.heap.size W V
  | [k], V => Below W.heap.size W V ∧ NewS W V k x.key
  | [k, v], V => Below W.heap.size W V ∧ NewS W V k x.key ∧ NewS W V v x.val
  | _, V => W.grownBy V (some b) ∧ ∃ a c a2 c2, BoxN V b 28 [.int .i64 x.table, .slice a x.key.length c, .bool x.gone, .slice a2 x.val.length c2] ∧ RdS (fun k => W.heap.size ≤ k ∧ k < V.heap.size) V (.slice a x.key.length c) x.key ∧ RdS (fun k => W.heap.size ≤ k ∧ k < V.heap.size) V (.slice a2 x.val.length c2) x.val
theorem WriJ.below {W : World} {b : Nat} {x : Wr} : ∀ (l : List Value) (V V' : World), WriJ W b x l V → Below V.heap.size V V' → WriJ W b x l V'
  | [], _, _, h, hb => Below.trans h (hb.mono (Below.size h))
  | [_], _, _, ⟨h, h1⟩, hb => ⟨h.trans (hb.mono h.size), h1.below hb⟩
  | [_, _], _, _, ⟨h, h1, h2⟩, hb => ⟨h.trans (hb.mono h.size), h1.below hb, h2.below hb⟩
  | _ :: _ :: _ :: _, _, _, ⟨h, a, c, a2, c2, h0, h1, h2⟩, hb => ⟨grown_trans h (grown_below' hb _), a, c, a2, c2, h0.below hb h0.lt, (h1.below hb).weak fun _ hk => ⟨hk.1, Nat.lt_of_lt_of_le hk.2 hb.size⟩, (h2.below hb).weak fun _ hk => ⟨hk.1, Nat.lt_of_lt_of_le hk.2 hb.size⟩⟩
set_option maxRecDepth 100000 in
set_option maxHeartbeats 4000000 in
theorem rWrite_any (w : World) {S : Nat → Prop} {v : Value} {x : Wr} (h : RdWr S w v x) (h1 : x.key.length ≤ 1000000) (h2 : x.val.length ≤ 1000000) :
    Calls Try.prog 34 #[v] w (WrEnd w x) := by
  obtain ⟨a, c, a2, c2, rfl, hk, hv, ht⟩ := h
  obtain ⟨W, hW, q, bn, bz, hsz⟩ := boxes2 w 28 28 [.int .i64 x.table, .slice a x.key.length c, .bool x.gone, .slice a2 x.val.length c2] [.int .i64 0, .slice none 0 0, .bool false, .slice none 0 0]
  go_enter Try.func34, Try.ntmps34
  go_upto_region 1 with (fail)
  rw [show (w.alloc (.cells #[.int .i64 x.table, .slice a x.key.length c, .bool x.gone, .slice a2 x.val.length c2] 28)).alloc (.cells #[.int .i64 0, .slice none 0 0, .bool false, .slice none 0 0] 28) = W from hW.symm]
  clear hW
  have hk' := hk.below q
  have hv' := hv.below q
  refine wp_region_lnl (K := fun A B => A.grownBy B (some (w.heap.size + 1))) (by kernel_rfl) (by kernel_rfl) [5, 11, 13] (by kernel_rfl) [lEq (.pointer (some ⟨w.heap.size, 0 + 0, none⟩)), lEq (.int .i64 x.table), pZb W (w.heap.size + 1) (by omega), lEq (.pointer (some ⟨w.heap.size, 0 + 1, none⟩)), lEq (.slice a x.key.length c), lAny, lEq (.pointer (some ⟨w.heap.size, 0 + 2, none⟩)), lEq (.bool x.gone), pZb W (w.heap.size + 1) (by omega), lEq (.pointer (some ⟨w.heap.size, 0 + 3, none⟩)), lEq (.slice a2 x.val.length c2), lAny, pWr W (w.heap.size + 1) (by omega) x, lAny] (WriJ W (w.heap.size + 1) x) WriJ.below (show Below W.heap.size W W from Below.refl _ _)
    ⟨?o0, ?o1, ?o2, ?o3, ?o4, ?o5, ?o6, ?o7, ?o8, ?o9, ?o10, ?o11, ?o12, ?o13, trivial⟩ ?fin
  case o0 =>
    refine LnOp.side rfl (by kernel_rfl) (fun A va w' k hF hT hk hJ hb hu hp hd => ?_)
    have e1 : A.eval (.tmp 1) = .pointer (some ⟨w.heap.size, 0, none⟩) := hF 1 rfl
    exact wp_fieldN wrS rfl (e1) (by omega) ⟨_, rfl, rfl, Below.refl _ _⟩
  case o1 =>
    refine LnOp.side rfl (by kernel_rfl) (fun A va w' k hF hT hk hJ hb hu hp hd => ?_)
    have e1 : A.eval (.tmp 3) = .pointer (some ⟨w.heap.size, 0 + 0, none⟩) := (hT 3 0 (by simp) rfl).trans (hd ⟨0, .data⟩ (by simp) rfl rfl)
    have hJ0 : Below W.heap.size W w' := by
      have h5 := hb 2 13 rfl (by kernel_rfl)
      rcases k with _ | _ | _ | k
      · exact hJ
      · exact hJ.1
      · exact hJ.1
      · omega
    exact wp_ld_int (k := .i64) rfl e1 (by kernel_rfl) ((bn.below (hJ0.mono (by omega)) bn.lt).cell (i := 0) rfl) ⟨_, rfl, rfl, Below.refl _ _⟩
  case o2 =>
    refine LnOp.side rfl (by kernel_rfl) (fun A va w' k hF hT hk hJ hb hu hp hd => ?_)
    obtain rfl : k = 0 := by have := hb 0 5 rfl (by kernel_rfl); omega
    have hJ0 : Below W.heap.size W w' := hJ
    exact wp_buildZ byP rfl (fun w2 hf => ⟨_, rfl, ⟨_, rfl, hf.2.to hJ0.size⟩, hf.1⟩)
  case o3 =>
    refine LnOp.side rfl (by kernel_rfl) (fun A va w' k hF hT hk hJ hb hu hp hd => ?_)
    have e1 : A.eval (.tmp 1) = .pointer (some ⟨w.heap.size, 0, none⟩) := hF 1 rfl
    exact wp_fieldN wrS rfl (e1) (by omega) ⟨_, rfl, rfl, Below.refl _ _⟩
  case o4 =>
    refine LnOp.side rfl (by kernel_rfl) (fun A va w' k hF hT hk hJ hb hu hp hd => ?_)
    have e1 : A.eval (.tmp 6) = .pointer (some ⟨w.heap.size, 0 + 1, none⟩) := (hT 6 3 (by simp) rfl).trans (hd ⟨3, .data⟩ (by simp) rfl rfl)
    have hJ0 : Below W.heap.size W w' := by
      have h5 := hb 2 13 rfl (by kernel_rfl)
      rcases k with _ | _ | _ | k
      · exact hJ
      · exact hJ.1
      · exact hJ.1
      · omega
    exact wp_ld_slice (e := 5) rfl e1 (by kernel_rfl) ((bn.below (hJ0.mono (by omega)) bn.lt).cell (i := 1) rfl) ⟨_, rfl, rfl, Below.refl _ _⟩
  case o5 =>
    refine LnOp.line 0 rfl rfl (fun A va w' hF hT hJ hu hd => ?_)
    have x1 : A.eval (.tmp 5) = va 2 := hT 5 2 (by simp) rfl
    have y1 := hd ⟨2, .data⟩ (by simp) rfl rfl
    have e2 : A.eval (.tmp 7) = .slice a x.key.length c := (hT 7 4 (by simp) rfl).trans (hd ⟨4, .data⟩ (by simp) rfl rfl)
    have hJ0 : Below W.heap.size W w' := hJ
    obtain ⟨g, eg, hO⟩ := y1
    refine wp_append_zero byP rfl (x1.trans eg) (by rw [← eg]; exact hO) e2 (hk'.below hJ0).rd hJ0.size (fun ad7 k7 c7 w2 hO2 hb2 => ?_) (by omega)
    exact ⟨_, rfl, ⟨hJ0.trans (hb2.mono hJ0.size), NewS.own hO2⟩, grown_below' hb2 _⟩
  case o6 =>
    refine LnOp.side rfl (by kernel_rfl) (fun A va w' k hF hT hk hJ hb hu hp hd => ?_)
    have e1 : A.eval (.tmp 1) = .pointer (some ⟨w.heap.size, 0, none⟩) := hF 1 rfl
    exact wp_fieldN wrS rfl (e1) (by omega) ⟨_, rfl, rfl, Below.refl _ _⟩
  case o7 =>
    refine LnOp.side rfl (by kernel_rfl) (fun A va w' k hF hT hk hJ hb hu hp hd => ?_)
    have e1 : A.eval (.tmp 9) = .pointer (some ⟨w.heap.size, 0 + 2, none⟩) := (hT 9 6 (by simp) rfl).trans (hd ⟨6, .data⟩ (by simp) rfl rfl)
    have hJ0 : Below W.heap.size W w' := by
      have h5 := hb 2 13 rfl (by kernel_rfl)
      rcases k with _ | _ | _ | k
      · exact hJ
      · exact hJ.1
      · exact hJ.1
      · omega
    exact wp_ld_bool rfl e1 (by kernel_rfl) ((bn.below (hJ0.mono (by omega)) bn.lt).cell (i := 2) rfl) ⟨_, rfl, rfl, Below.refl _ _⟩
  case o8 =>
    refine LnOp.side rfl (by kernel_rfl) (fun A va w' k hF hT hk hJ hb hu hp hd => ?_)
    have hJ0 : Below W.heap.size W w' := by
      have h5 := hb 1 11 rfl (by kernel_rfl)
      rcases k with _ | _ | k
      · exact hJ
      · exact hJ.1
      · omega
    exact wp_buildZ byP rfl (fun w2 hf => ⟨_, rfl, ⟨_, rfl, hf.2.to hJ0.size⟩, hf.1⟩)
  case o9 =>
    refine LnOp.side rfl (by kernel_rfl) (fun A va w' k hF hT hk hJ hb hu hp hd => ?_)
    have e1 : A.eval (.tmp 1) = .pointer (some ⟨w.heap.size, 0, none⟩) := hF 1 rfl
    exact wp_fieldN wrS rfl (e1) (by omega) ⟨_, rfl, rfl, Below.refl _ _⟩
  case o10 =>
    refine LnOp.side rfl (by kernel_rfl) (fun A va w' k hF hT hk hJ hb hu hp hd => ?_)
    have e1 : A.eval (.tmp 12) = .pointer (some ⟨w.heap.size, 0 + 3, none⟩) := (hT 12 9 (by simp) rfl).trans (hd ⟨9, .data⟩ (by simp) rfl rfl)
    have hJ0 : Below W.heap.size W w' := by
      have h5 := hb 2 13 rfl (by kernel_rfl)
      rcases k with _ | _ | _ | k
      · exact hJ
      · exact hJ.1
      · exact hJ.1
      · omega
    exact wp_ld_slice (e := 5) rfl e1 (by kernel_rfl) ((bn.below (hJ0.mono (by omega)) bn.lt).cell (i := 3) rfl) ⟨_, rfl, rfl, Below.refl _ _⟩
  case o11 =>
    refine LnOp.line 1 rfl rfl (fun A va w' hF hT hJ hu hd => ?_)
    have x1 : A.eval (.tmp 11) = va 8 := hT 11 8 (by simp) rfl
    have y1 := hd ⟨8, .data⟩ (by simp) rfl rfl
    have e2 : A.eval (.tmp 13) = .slice a2 x.val.length c2 := (hT 13 10 (by simp) rfl).trans (hd ⟨10, .data⟩ (by simp) rfl rfl)
    obtain ⟨hJ0, hJ1⟩ := hJ
    obtain ⟨g, eg, hO⟩ := y1
    refine wp_append_zero byP rfl (x1.trans eg) (by rw [← eg]; exact hO) e2 (hv'.below hJ0).rd hJ0.size (fun ad7 k7 c7 w2 hO2 hb2 => ?_) (by omega)
    exact ⟨_, rfl, ⟨hJ0.trans (hb2.mono hJ0.size), hJ1.below hb2, NewS.own hO2⟩, grown_below' hb2 _⟩
  case o12 =>
    refine LnOp.side rfl (by kernel_rfl) (fun A va w' k hF hT hk hJ hb hu hp hd => ?_)
    have e1 : A.eval (.tmp 4) = .int .i64 x.table := (hT 4 1 (by simp) rfl).trans (hd ⟨1, .data⟩ (by simp) rfl rfl)
    have x2 : A.eval (.tmp 8) = va 5 := hT 8 5 (by simp) rfl
    have e3 : A.eval (.tmp 10) = .bool x.gone := (hT 10 7 (by simp) rfl).trans (hd ⟨7, .data⟩ (by simp) rfl rfl)
    have x4 : A.eval (.tmp 14) = va 11 := hT 14 11 (by simp) rfl
    obtain rfl : k = 2 := by
      have h1 := hp ⟨11, .data⟩ (by simp) rfl 1 rfl
      have h2 := hb 2 13 rfl (by kernel_rfl)
      omega
    obtain ⟨hJ0, ⟨a7, c7, e7, h7⟩, ⟨a8, c8, e8, h8⟩⟩ := hJ
    exact wp_build4 wrS rfl e1 (x2.trans e7) e3 (x4.trans e8) rfl rfl rfl rfl ⟨_, rfl, ⟨a7, c7, a8, c8, rfl, h7, h8, ht⟩, Below.refl _ _⟩
  case o13 =>
    refine LnOp.line 2 rfl rfl (fun A va w' hF hT hJ hu hd => ?_)
    have e1 : A.eval (.tmp 2) = .pointer (some ⟨w.heap.size + 1, 0, none⟩) := hF 2 rfl
    have x2 : A.eval (.tmp 15) = va 12 := hT 15 12 (by simp) rfl
    have y2 := hd ⟨12, .data⟩ (by simp) rfl rfl
    have hJ0 : Below W.heap.size W w' := hJ.1
    obtain ⟨a7, c7, a8, c8, e7, h7, h8, h9⟩ := y2
    refine wp_boxStore (us := [.int .i64 x.table, .slice a7 _ c7, .bool x.gone, .slice a8 _ c8]) (by kernel_rfl) rfl e1 (x2.trans e7) rfl (bz.below hJ0 (by omega)) rfl (fun w2 hg hB2 => ?_)
    exact ⟨_, rfl, ⟨(grown_below2 hJ0 rfl _).andThen hg (by simp), a7, c7, a8, c8, hB2, (h7.keep fun k hk => hg.block k hk.2 fun e => by injection e with e; omega).weak fun k hk => ⟨hk.1, Nat.lt_of_lt_of_le hk.2 hg.size⟩, (h8.keep fun k hk => hg.block k hk.2 fun e => by injection e with e; omega).weak fun k hk => ⟨hk.1, Nat.lt_of_lt_of_le hk.2 hg.size⟩⟩, hg⟩
  case fin =>
    intro vs1 W9 hJ hG
    obtain ⟨hg9, ka, kc, va, vc, hb9, hk9, hv9⟩ := hJ
    have q9 : Below w.heap.size w W9 := q.grown hg9 q.size fun k e => by injection e with e; omega
    clear hG
    simp only [putAll]
    go_simp
    have d0 := hb9.cell (i := 0) rfl
    have d1 := hb9.cell (i := 1) rfl
    have d2 := hb9.cell (i := 2) rfl
    have d3 := hb9.cell (i := 3) rfl
    go_wp2_with fail
    obtain ⟨fs, hu, _⟩ := wrS.hu
    refine bodyPost_ret (v := .agg #[.int .i64 x.table, .slice ka x.key.length kc, .bool x.gone, .slice va x.val.length vc]) (by simp [results, Try.results34, go_sem, loadVar, isAgg, run_underlying hu, run_sizeOf' wrS.hs, loadCellsFrom, Addr.add, d0, d1, d2, d3]) rfl ?_
    exact ⟨_, rfl, ⟨ka, kc, va, vc, rfl, hk9.weak fun k hk => ⟨by omega, hk.2⟩, hv9.weak fun k hk => ⟨by omega, hk.2⟩, ht⟩, q9⟩
end Go.Proofs.Ytjbdkhddnblieaa
