/-
  TEXTS OF ONE PROOF, merged: LkL, LkN, LkU, SpC, LkY.
-/
import Derived.Lib.ConvBytes
import Derived.Test.YtpdnehgboafgpaaDoorKw10
namespace Go.Proofs.YtpdnehgboafgpaaDoor
open Go.RowKit Go.Shelf
def newK (W : World) (z : Option Value) (w : World) (g : Nat) : Prop := W.heap.size ≤ g ∧ g < w.heap.size ∧ ∀ b, z = some (.pointer (some ⟨b, 0, none⟩)) → g ≠ b
structure AkS (W : World) (x : Lk) (u7 u8 : Value) (c m n z s : Option Value) (V : World) : Prop where
  be : Below W.heap.size W V
  cc : ∀ v, c = some v → ∃ a b d e, v = .agg #[.int .i64 x.owner, .bool x.whole, .int .i64 x.span.table, .slice a x.span.lo.length b, .slice d x.span.hi.length e, .bool x.span.isOpen, .int .i64 x.mode] ∧ RdLk (newK W z V) V v x
  mm : ∀ v, m = some v → c = some v
  nn : ∀ v, n = some v → ∃ a b d e, c = some (.agg #[.int .i64 x.owner, .bool x.whole, .int .i64 x.span.table, .slice a x.span.lo.length b, .slice d x.span.hi.length e, .bool x.span.isOpen, .int .i64 x.mode]) ∧ v = .agg #[.int .i64 x.owner, .bool x.whole, .int .i64 x.span.table, .slice a x.span.lo.length b, .slice d x.span.hi.length e, .bool x.span.isOpen, .int .i64 x.mode, u7, u8]
  zz : ∀ v, z = some v → ∃ b, v = .pointer (some ⟨b, 0, none⟩) ∧ W.heap.size ≤ b ∧ (s = none → BoxN V b 61 [.int .i64 0, .bool false, .int .i64 0, .slice none 0 0, .slice none 0 0, .bool false, .int .i64 0, .slice none 0 0, .slice none 0 0]) ∧ b < V.heap.size
  ss : ∀ v, s = some v → ∃ b, ∃ a : Option Addr, ∃ d : Nat, ∃ e : Option Addr, ∃ f : Nat, z = some (.pointer (some ⟨b, 0, none⟩)) ∧ c = some (.agg #[.int .i64 x.owner, .bool x.whole, .int .i64 x.span.table, .slice a x.span.lo.length d, .slice e x.span.hi.length f, .bool x.span.isOpen, .int .i64 x.mode]) ∧ BoxN V b 61 [.int .i64 x.owner, .bool x.whole, .int .i64 x.span.table, .slice a x.span.lo.length d, .slice e x.span.hi.length f, .bool x.span.isOpen, .int .i64 x.mode, u7, u8]
  o0 : c = none → m = none
  o1 : m = none → n = none
  o2 : n = none → s = none
  o3 : z = none → s = none
def AkE (W : World) (x : Lk) (u7 u8 : Value) : List (Option Value) → World → Prop
  | [c, m, n, z, s], V => AkS W x u7 u8 c m n z s V
  | _, _ => False
section
variable {W V V' : World} {x : Lk} {u7 u8 : Value} {c m n z s : Option Value}
theorem AkS.start (W : World) (x : Lk) (u7 u8 : Value) : AkS W x u7 u8 none none none none none W :=
  ⟨Below.refl _ _, (fun _ h => by cases h), (fun _ h => by cases h), (fun _ h => by cases h), (fun _ h => by cases h), (fun _ h => by cases h), fun _ => rfl, fun _ => rfl, fun _ => rfl, fun _ => rfl⟩
theorem newK.more {k : Nat} (h : newK W z V k) (hb : Below V.heap.size V V') : newK W z V' k := ⟨h.1, Nat.lt_of_lt_of_le h.2.1 hb.size, h.2.2⟩
theorem AkS.more (h : AkS W x u7 u8 c m n z s V) (hb : Below V.heap.size V V') : AkS W x u7 u8 c m n z s V' :=
  ⟨h.be.trans (hb.mono h.be.size), (fun v h1 => by obtain ⟨a, b, d, e, h2, h3⟩ := h.cc v h1; exact ⟨a, b, d, e, h2, (h3.below hb).weak fun k hk => hk.more hb⟩), h.mm, h.nn,
    (fun v h1 => by obtain ⟨b, h2, h3, h4, h5⟩ := h.zz v h1; exact ⟨b, h2, h3, fun h6 => (h4 h6).below hb h5, Nat.lt_of_lt_of_le h5 hb.size⟩),
    (fun v h1 => by obtain ⟨b, a, d, e, f, h2, h3, h4⟩ := h.ss v h1; exact ⟨b, a, d, e, f, h2, h3, h4.below hb h4.lt⟩), h.o0, h.o1, h.o2, h.o3⟩
theorem AkE.more (W : World) (x : Lk) (u7 u8 : Value) : ∀ (t : List (Option Value)) (V V' : World), AkE W x u7 u8 t V → Below V.heap.size V V' → AkE W x u7 u8 t V'
  | [_, _, _, _, _], _, _, h, hb => AkS.more h hb
theorem AkE.be : ∀ {t : List (Option Value)} {V : World}, AkE W x u7 u8 t V → Below W.heap.size W V
  | [_, _, _, _, _], _, h => AkS.be h
theorem AkS.call {v : Value} (h : AkS W x u7 u8 none m n z s V) (hb : Below V.heap.size V V') (hv : RdLk (fun k => V.heap.size ≤ k ∧ k < V'.heap.size) V' v x) : AkS W x u7 u8 (some v) m n z s V' := by
  have h' := h.more hb
  obtain rfl := h.o0 rfl
  obtain rfl := h.o1 rfl
  obtain rfl := h.o2 rfl
  refine ⟨h'.be, fun u h1 => ?_, (fun _ h => by cases h), (fun _ h => by cases h), h'.zz, (fun _ h => by cases h), (fun h => by cases h), h'.o1, h'.o2, h'.o3⟩
  obtain rfl := Option.some.inj h1
  have hv2 := hv
  obtain ⟨a, b, d, e, ev, _⟩ := hv
  exact ⟨a, b, d, e, ev, hv2.weak fun k hk => ⟨Nat.le_trans h.be.size hk.1, hk.2, fun b hz => by
    obtain ⟨b', e', _, _, h5⟩ := h.zz _ hz
    injection e' with e'
    injection e' with e'
    injection e' with e'
    omega⟩⟩
theorem AkS.one {v : Value} (h : AkS W x u7 u8 (some v) none n z s V) : ∃ a b d e, v = .agg #[.int .i64 x.owner, .bool x.whole, .int .i64 x.span.table, .slice a x.span.lo.length b, .slice d x.span.hi.length e, .bool x.span.isOpen, .int .i64 x.mode] ∧ AkS W x u7 u8 (some v) (some v) n z s V := by
  obtain rfl := h.o1 rfl
  obtain rfl := h.o2 rfl
  obtain ⟨a, b, d, e, ev, _⟩ := h.cc v rfl
  exact ⟨a, b, d, e, ev, h.be, h.cc, (fun u h => h), (fun _ h => by cases h), h.zz, (fun _ h => by cases h), (fun h => by cases h), fun _ => rfl, fun _ => rfl, fun _ => rfl⟩
theorem AkS.ask {v : Value} (h : AkS W x u7 u8 c (some v) none z s V) : ∃ a b d e, v = .agg #[.int .i64 x.owner, .bool x.whole, .int .i64 x.span.table, .slice a x.span.lo.length b, .slice d x.span.hi.length e, .bool x.span.isOpen, .int .i64 x.mode] ∧ AkS W x u7 u8 c (some v) (some (.agg #[.int .i64 x.owner, .bool x.whole, .int .i64 x.span.table, .slice a x.span.lo.length b, .slice d x.span.hi.length e, .bool x.span.isOpen, .int .i64 x.mode, u7, u8])) z s V := by
  obtain rfl := h.o2 rfl
  obtain rfl := h.mm v rfl
  obtain ⟨a, b, d, e, ev, _⟩ := h.cc v rfl
  refine ⟨a, b, d, e, ev, h.be, h.cc, h.mm, fun u h1 => ?_, h.zz, (fun _ h => by cases h), (fun h => by cases h), (fun h => by cases h), fun _ => rfl, fun _ => rfl⟩
  obtain rfl := Option.some.inj h1
  exact ⟨a, b, d, e, by rw [ev], rfl⟩
theorem AkS.box (h : AkS W x u7 u8 c m n none s V) (hb : Below V.heap.size V V') (hz : BoxN V' V.heap.size 61 [.int .i64 0, .bool false, .int .i64 0, .slice none 0 0, .slice none 0 0, .bool false, .int .i64 0, .slice none 0 0, .slice none 0 0]) : AkS W x u7 u8 c m n (some (.pointer (some ⟨V.heap.size, 0, none⟩))) s V' := by
  have h' := h.more hb
  obtain rfl := h.o3 rfl
  refine ⟨h'.be, fun u h1 => ?_, h'.mm, h'.nn, fun u h1 => ?_, (fun _ h => by cases h), h'.o0, h'.o1, h'.o2, fun h => by cases h⟩
  · obtain ⟨a, b, d, e, ev, h2⟩ := h.cc u h1
    exact ⟨a, b, d, e, ev, (h2.keep fun k hk => hb.block k hk.2.1).weak fun k hk => ⟨hk.1, Nat.lt_of_lt_of_le hk.2.1 hb.size, fun b he => by
      injection he with he
      injection he with he
      injection he with he
      injection he with he
      have := hk.2.1
      omega⟩⟩
  · obtain rfl := Option.some.inj h1
    exact ⟨_, rfl, h.be.size, fun _ => hz, hz.lt⟩
theorem AkS.ready {u v : Value} (h : AkS W x u7 u8 c m (some v) (some u) none V) : ∃ b, ∃ a : Option Addr, ∃ d : Nat, ∃ e : Option Addr, ∃ f : Nat, u = .pointer (some ⟨b, 0, none⟩) ∧ v = .agg #[.int .i64 x.owner, .bool x.whole, .int .i64 x.span.table, .slice a x.span.lo.length d, .slice e x.span.hi.length f, .bool x.span.isOpen, .int .i64 x.mode, u7, u8] ∧ BoxN V b 61 [.int .i64 0, .bool false, .int .i64 0, .slice none 0 0, .slice none 0 0, .bool false, .int .i64 0, .slice none 0 0, .slice none 0 0] := by
  obtain ⟨b, e1, _, h2, _⟩ := h.zz u rfl
  obtain ⟨a, d, e, f, _, e2⟩ := h.nn v rfl
  exact ⟨b, a, d, e, f, e1, e2, h2 rfl⟩
theorem AkS.store {u v y : Value} {b : Nat} {a e' : Option Addr} {e f : Nat} (h : AkS W x u7 u8 c m (some v) (some u) none V) (eu : u = .pointer (some ⟨b, 0, none⟩)) (ev : v = .agg #[.int .i64 x.owner, .bool x.whole, .int .i64 x.span.table, .slice a x.span.lo.length e, .slice e' x.span.hi.length f, .bool x.span.isOpen, .int .i64 x.mode, u7, u8]) (hg : V.grownBy V' (some b)) (hB : BoxN V' b 61 [.int .i64 x.owner, .bool x.whole, .int .i64 x.span.table, .slice a x.span.lo.length e, .slice e' x.span.hi.length f, .bool x.span.isOpen, .int .i64 x.mode, u7, u8]) : AkS W x u7 u8 c m (some v) (some u) (some y) V' := by
  subst eu
  obtain ⟨b', e1, hw, _, hlt⟩ := h.zz _ rfl
  injection e1 with e1
  injection e1 with e1
  injection e1 with e1 _ _
  subst e1
  refine ⟨h.be.grown hg h.be.size (fun k hk => by injection hk with hk; omega), fun q h1 => ?_, h.mm, h.nn, fun q h1 => ?_, fun q h1 => ?_, h.o0, h.o1, (fun h => by cases h), fun h => by cases h⟩
  · obtain ⟨a, b', d, e, eq, h2⟩ := h.cc q h1
    exact ⟨a, b', d, e, eq, (h2.keep fun k hk => hg.block k hk.2.1 fun e => by injection e with e; exact hk.2.2 b rfl e).weak fun k hk => ⟨hk.1, Nat.lt_of_lt_of_le hk.2.1 hg.size, hk.2.2⟩⟩
  · obtain rfl := Option.some.inj h1
    exact ⟨b, rfl, hw, (fun h => by cases h), Nat.lt_of_lt_of_le hlt hg.size⟩
  · obtain ⟨a1, d1, e1, f1, ec, en⟩ := h.nn v rfl
    rw [ev] at en
    injection en with en
    simp only [Array.mk.injEq, List.cons.injEq, Value.slice.injEq, true_and, and_true] at en
    obtain ⟨⟨rfl, rfl⟩, rfl, rfl⟩ := en
    exact ⟨b, _, _, _, _, rfl, ec, hB⟩
theorem AkS.done {v1 v2 v4 v5 v6 : Value} (h : AkS W x u7 u8 (some v1) (some v2) (some v4) (some v5) (some v6) V) : ∃ bA p1 p2 p3 p4, v1 = .agg #[.int .i64 x.owner, .bool x.whole, .int .i64 x.span.table, .slice p1 x.span.lo.length p2, .slice p3 x.span.hi.length p4, .bool x.span.isOpen, .int .i64 x.mode] ∧ v2 = .agg #[.int .i64 x.owner, .bool x.whole, .int .i64 x.span.table, .slice p1 x.span.lo.length p2, .slice p3 x.span.hi.length p4, .bool x.span.isOpen, .int .i64 x.mode] ∧ v4 = .agg #[.int .i64 x.owner, .bool x.whole, .int .i64 x.span.table, .slice p1 x.span.lo.length p2, .slice p3 x.span.hi.length p4, .bool x.span.isOpen, .int .i64 x.mode, u7, u8] ∧ v5 = .pointer (some ⟨bA, 0, none⟩) ∧ W.heap.size ≤ bA ∧ BoxN V bA 61 [.int .i64 x.owner, .bool x.whole, .int .i64 x.span.table, .slice p1 x.span.lo.length p2, .slice p3 x.span.hi.length p4, .bool x.span.isOpen, .int .i64 x.mode, u7, u8] ∧ RdLk (fun k => W.heap.size ≤ k ∧ k < V.heap.size ∧ k ≠ bA) V (.agg #[.int .i64 x.owner, .bool x.whole, .int .i64 x.span.table, .slice p1 x.span.lo.length p2, .slice p3 x.span.hi.length p4, .bool x.span.isOpen, .int .i64 x.mode]) x ∧ Below W.heap.size W V := by
  obtain ⟨bA, p1, p2, p3, p4, ez, ec, hB⟩ := h.ss _ rfl
  obtain rfl := Option.some.inj ez
  obtain rfl := Option.some.inj ec
  obtain ⟨b', e1, hw, _⟩ := h.zz _ rfl
  injection e1 with e1
  injection e1 with e1
  injection e1 with e1 _ _
  subst e1
  obtain ⟨a1, b1, d1, e1, e2, hr⟩ := h.cc _ rfl
  obtain ⟨q1, q2, q3, q4, ec2, en⟩ := h.nn _ rfl
  have em := Option.some.inj (h.mm _ rfl)
  have ec3 := Option.some.inj ec2
  injection ec3 with ec3
  simp only [Array.mk.injEq, List.cons.injEq, Value.slice.injEq, true_and, and_true] at ec3
  obtain ⟨⟨rfl, rfl⟩, rfl, rfl⟩ := ec3
  exact ⟨bA, p1, p2, p3, p4, rfl, em.symm, en, rfl, hw, hB, hr.weak fun k hk => ⟨hk.1, hk.2.1, hk.2.2 _ rfl⟩, h.be⟩
end
def AskEnd (w : World) (r : List Lk × List Lk × Nat) (e : Ending) (w' : World) : Prop :=
  ∃ a c a2 c2, e = .returned (.tuple #[.agg #[.slice a r.1.length c, .slice a2 r.2.1.length c2], .int .i64 (r.2.2 : Nat)]) ∧ RdLs (fun k => w.heap.size ≤ k ∧ k < w'.heap.size) w' (.agg #[.slice a r.1.length c, .slice a2 r.2.1.length c2]) r.1 r.2.1 ∧ Below w.heap.size w w'
def JoJ (W : World) (b : Nat) (v : Value) (us : List Value) : List Value → World → Prop
  | [], V => Below W.heap.size W V
  | [u], V => Below W.heap.size W V ∧ u = v
  | _ :: _ :: _, V => W.grownBy V (some b) ∧ BoxN V b 61 us
theorem JoJ.below {W : World} {b : Nat} {v : Value} {us : List Value} : ∀ (l : List Value) (V V' : World), JoJ W b v us l V → Below V.heap.size V V' → JoJ W b v us l V'
  | [], _, _, h, hb => Below.trans h (hb.mono (Below.size h))
  | [_], _, _, ⟨h, e⟩, hb => ⟨h.trans (hb.mono h.size), e⟩
  | _ :: _ :: _, _, _, ⟨h, h2⟩, hb => ⟨grownT h (grownB hb _), h2.below hb h2.lt⟩
theorem JoJ.cell {W : World} {b : Nat} {v : Value} {us us0 : List Value} (hA : BoxN W b 61 us0) {i : Nat} {u : Value} (h0 : us0[i]? = some u) (h1 : us[i]? = some u) : ∀ {l : List Value} {V : World}, JoJ W b v us l V → V.cell? ⟨b, i, none⟩ = some u
  | [], _, h => (hA.below h hA.lt).cell h0
  | [_], _, h => (hA.below h.1 hA.lt).cell h0
  | _ :: _ :: _, _, h => h.2.cell h1
theorem join_w64 (a b : Int) : W64 (joinM a b) := by
  unfold W64
  rcases md_cases a with rfl | rfl | rfl | rfl | rfl | h
  case inr.inr.inr.inr.inr => rw [join_none b h]; omega
  all_goals rcases md_cases b with rfl | rfl | rfl | rfl | rfl | h
  all_goals first
    | decide
    | (rw [join_none2 _ h]; omega)
theorem ask_no {H Q : List Lk} {x : Lk} (h : ¬ (fine x = true ∧ okLk H Q ∧ waitsL Q x.owner = false)) : askL H Q x = (H, Q, 1) := if_neg h
set_option maxRecDepth 100000 in
set_option maxHeartbeats 8000000 in
theorem lAsk_any (w : World) (hT : TabAt w) {S S2 : Nat → Prop} {v u : Value} {H Q : List Lk} {x : Lk} (h : RdLs S w v H Q) (hsH : smK H) (hsQ : smK Q) (hnH : H.length ≤ 400000) (hnQ : Q.length ≤ 400000) (hx : RdLk S2 w u x) (hx1 : x.span.lo.length ≤ 1000000) (hx2 : x.span.hi.length ≤ 1000000) :
    Calls Tryd.prog 30 #[v, u] w (AskEnd w (askL H Q x)) := by
  have hfull := h
  have hxf := hx
  obtain ⟨aH, cH, aL, cL, rfl, hH, hQ⟩ := h
  clear hH hQ
  obtain ⟨x1, x2, x3, x4, rfl, hk1, hk2, hw64⟩ := hx
  clear hk1 hk2
  obtain ⟨W0, hW, q, bn, Bx, bz, hsz⟩ := spBoxes3 w 24 29 24 [.slice aH H.length cH, .slice aL Q.length cL] [.int .i64 x.owner, .bool x.whole, .int .i64 x.span.table, .slice x1 x.span.lo.length x2, .slice x3 x.span.hi.length x4, .bool x.span.isOpen, .int .i64 x.mode] [.slice none 0 0, .slice none 0 0]
  have eAl : ∀ args w, (callFunc 58 args).run Tryd.prog w = .ok (.enter 58 args) w := enters_of Tryd.func58 (by kernel_rfl) rfl
  have eJo : ∀ args w, (callFunc 61 args).run Tryd.prog w = .ok (.enter 61 args) w := enters_of Tryd.func61 (by kernel_rfl) rfl
  go_enter Tryd.func30, Tryd.ntmps30
  go_upto_region 1 with (fail)
  rw [show ((w.alloc (.cells #[.slice aH H.length cH, .slice aL Q.length cL] 24)).alloc (.cells #[.int .i64 x.owner, .bool x.whole, .int .i64 x.span.table, .slice x1 x.span.lo.length x2, .slice x3 x.span.hi.length x4, .bool x.span.isOpen, .int .i64 x.mode] 29)).alloc (.cells #[.slice none 0 0, .slice none 0 0] 24) = W0 from hW.symm]
  clear hW hsz
  have zW := bz.lt
  have b0 := bn.cell (i := 0) rfl
  have b1 := bn.cell (i := 1) rfl
  have hcp := lCopied_any W0 (hfull.below q) hsH hsQ
  go_upto_region 2 with (first | (go_at_call 54; refine hcp.mono ?_; rintro e W1 ⟨aC, cC, aD, cD, rfl, hK, hb1⟩) | (refine wpList_boxNew (vs := [.slice none 0 0, .slice none 0 0]) (by kernel_rfl) rfl rfl ?_; intro wa hba hBa) | (refine wpList_boxStore (us := [.slice aC H.length cC, .slice aD Q.length cD]) (by kernel_rfl) rfl rfl rfl rfl rfl rfl hBa rfl ?_; intro w2 hg2 hB2) | fail)
  go_simp
  have hb2 : Below W1.heap.size W1 w2 := hba.grown hg2 hba.size fun k hk => by injection hk with hk; omega
  have z1 := hb1.size
  have zO := hB2.lt
  have q2 := q.trans ((hb1.trans (hb2.mono hb1.size)).mono q.size)
  have hK5 : ∀ w9, Below w2.heap.size w2 w9 → ∃ D : Nat → Prop, OwnF Elt.lk 29 D w9 (.slice aC H.length cC) H ∧ OwnF Elt.lk 29 D w9 (.slice aD Q.length cD) Q ∧ (∀ k, D k → W0.heap.size ≤ k ∧ k < w9.heap.size ∧ Value.ownBlock (.slice aC H.length cC) ≠ some k ∧ Value.ownBlock (.slice aD Q.length cD) ≠ some k) ∧ (∀ k, Value.ownBlock (.slice aC H.length cC) = some k → W0.heap.size ≤ k ∧ Value.ownBlock (.slice aD Q.length cD) ≠ some k) ∧ (∀ k, Value.ownBlock (.slice aD Q.length cD) = some k → W0.heap.size ≤ k) ∧ ∀ k, D k → k < W1.heap.size := by
    intro w9 hb9
    obtain ⟨D, h1, h2, h3, h4, h5⟩ := hK
    have hb := hb2.trans (hb9.mono hb2.size)
    exact ⟨D, h1.below hb fun k hk => (h3 k hk).2.1, h2.below hb fun k hk => (h3 k hk).2.1, fun k hk => ⟨(h3 k hk).1, Nat.lt_of_lt_of_le (h3 k hk).2.1 hb.size, (h3 k hk).2.2⟩, h4, h5, fun k hk => (h3 k hk).2.1⟩
  have hK2 : OwnKs W0.heap.size w2 aC aD cC cD H Q := hK.below hb2
  have bn2 := (bn.below hb1 bn.lt).below hb2 (by have := bn.lt; omega)
  have Bx2 := (Bx.below hb1 Bx.lt).below hb2 (by have := Bx.lt; omega)
  have bz2 := (bz.below hb1 bz.lt).below hb2 (by omega)
  have hob : (∀ k, Value.ownBlock (.slice aC H.length cC) = some k → W0.heap.size ≤ k ∧ k < W1.heap.size) ∧ ∀ k, Value.ownBlock (.slice aD Q.length cD) = some k → W0.heap.size ≤ k ∧ k < W1.heap.size := by
    obtain ⟨D, h1, h2, h3, h4, h5⟩ := hK
    exact ⟨fun k hk => ⟨(h4 k hk).1, h1.lt hk⟩, fun k hk => ⟨h5 k hk, h2.lt hk⟩⟩
  clear hba hBa hg2 hb2 hb1 hcp b0 b1 bn Bx bz hK
  have hC1 := wrong_any w2 (hxf.below q2)
  have c0 := Bx2.cell (i := 0) rfl
  have c1 := Bx2.cell (i := 1) rfl
  have c2 := Bx2.cell (i := 2) rfl
  have c3 := Bx2.cell (i := 3) rfl
  have c4 := Bx2.cell (i := 4) rfl
  have c5 := Bx2.cell (i := 5) rfl
  have c6 := Bx2.cell (i := 6) rfl
  go_wp2_with fail
  refine hC1.mono ?_
  rintro e w3 ⟨rfl, hb⟩
  have z3 := hb.size
  have q3 := q2.trans (hb.mono q2.size)
  have bn3 := bn2.below hb bn2.lt
  have Bx3 := Bx2.below hb Bx2.lt
  have bz3 := bz2.below hb bz2.lt
  have hB3 := hB2.below hb hB2.lt
  have hK3 := hK2.below hb
  have hb23 := hb
  clear c0 c1 c2 c3 c4 c5 c6 hC1 hb bn2 Bx2 bz2 hB2 hK2
  cases hfx : fine x with
  | false =>
    have Hh := Lib.hid (ask_no (H := H) (Q := Q) (x := x) fun h => by rw [hfx] at h; cases h.1)
    clear hfx
    simp only [Bool.not_false]
    have d0 := hB3.cell (i := 0) rfl
    have d1 := hB3.cell (i := 1) rfl
    go_wp2_with (first | (refine wpList_boxStore (us := [.slice aC H.length cC, .slice aD Q.length cD]) (by kernel_rfl) rfl rfl rfl rfl rfl rfl bz3 rfl ?_; intro wd hgd hBd) | fail)
    have g0 := hBd.cell (i := 0) rfl
    have g1 := hBd.cell (i := 1) rfl
    obtain ⟨fs, hu, _⟩ := lsS.hu
    refine bodyPost_ret (v := .tuple #[.agg #[.slice aC H.length cC, .slice aD Q.length cD], .int .i64 1]) (by simp [results, Tryd.results30, go_sem, loadVar, isAgg, run_underlying hu, run_sizeOf' lsS.hs, loadCellsFrom, Addr.add, g0, g1]) rfl ?_
    rw [Hh.out]
    have hK9 := hK3.grown hgd (by omega)
    have zd := hgd.size
    have zq2 := q.size
    exact ⟨aC, cC, aD, cD, rfl, hK9.rd.weak (fun k hk => ⟨by omega, hk.2⟩), q3.grown hgd q3.size (fun k e => by injection e with e; omega)⟩
  | true =>
  have hfx2 := Lib.hid hfx
  clear hfx
  simp only [Bool.not_true]
  have hC2 := lCheck_any w3 (hT.below q3) (hfull.below q3) (by omega) (by omega)
  have b0 := bn3.cell (i := 0) rfl
  have b1 := bn3.cell (i := 1) rfl
  go_wp2_with fail
  refine hC2.mono ?_
  rintro e w4 ⟨rfl, hb⟩
  have z4 := hb.size
  have q4 := q3.trans (hb.mono q3.size)
  have bn4 := bn3.below hb bn3.lt
  have Bx4 := Bx3.below hb Bx3.lt
  have bz4 := bz3.below hb bz3.lt
  have hB4 := hB3.below hb hB3.lt
  have hK4 := hK3.below hb
  have hb24 := hb23.trans (hb.mono hb23.size)
  clear b0 b1 hC2 hb bn3 Bx3 bz3 hB3 hK3 hb23
  cases hok : decide (okLk H Q) with
  | false =>
    have Hh := Lib.hid (ask_no (H := H) (Q := Q) (x := x) fun h => of_decide_eq_false hok h.2.1)
    clear hok
    have d0 := hB4.cell (i := 0) rfl
    have d1 := hB4.cell (i := 1) rfl
    go_wp2_with (first | (refine wpList_boxStore (us := [.slice aC H.length cC, .slice aD Q.length cD]) (by kernel_rfl) rfl rfl rfl rfl rfl rfl bz4 rfl ?_; intro wd hgd hBd) | fail)
    have g0 := hBd.cell (i := 0) rfl
    have g1 := hBd.cell (i := 1) rfl
    obtain ⟨fs, hu, _⟩ := lsS.hu
    refine bodyPost_ret (v := .tuple #[.agg #[.slice aC H.length cC, .slice aD Q.length cD], .int .i64 1]) (by simp [results, Tryd.results30, go_sem, loadVar, isAgg, run_underlying hu, run_sizeOf' lsS.hs, loadCellsFrom, Addr.add, g0, g1]) rfl ?_
    rw [Hh.out]
    have hK9 := hK4.grown hgd (by omega)
    have zd := hgd.size
    have zq2 := q.size
    exact ⟨aC, cC, aD, cD, rfl, hK9.rd.weak (fun k hk => ⟨by omega, hk.2⟩), q4.grown hgd q4.size (fun k e => by injection e with e; omega)⟩
  | true =>
  have hok2 := Lib.hid (of_decide_eq_true hok)
  have hokw := Lib.hid (show (decide (okLk H Q) && waitsL Q x.owner) = waitsL Q x.owner by rw [hok, Bool.true_and])
  clear hok
  have hC3 := lWaits_any w4 (hT.below q4) (o := x.owner) (hfull.below q4) (by omega) (by omega)
  rw [hokw.out] at hC3
  have b0 := bn4.cell (i := 0) rfl
  have b1 := bn4.cell (i := 1) rfl
  have f0 := Bx4.cell (i := 0) rfl
  go_wp2_with fail
  refine hC3.mono ?_
  rintro e w5 ⟨rfl, hb⟩
  have z5 := hb.size
  have q5 := q4.trans (hb.mono q4.size)
  have Bx5 := Bx4.below hb Bx4.lt
  have bz5 := bz4.below hb bz4.lt
  have hB5 := hB4.below hb hB4.lt
  have hK55 := hK4.below hb
  replace hK5 := hK5 w5 (hb24.trans (hb.mono hb24.size))
  clear b0 b1 f0 hC3 hb bn4 Bx4 bz4 hB4 hK4 hb24 hokw
  cases hwt : waitsL Q x.owner with
  | true =>
    have Hh := Lib.hid (ask_no (H := H) (Q := Q) (x := x) fun h => by rw [hwt] at h; cases h.2.2)
    clear hwt
    have d0 := hB5.cell (i := 0) rfl
    have d1 := hB5.cell (i := 1) rfl
    go_wp2_with (first | (refine wpList_boxStore (us := [.slice aC H.length cC, .slice aD Q.length cD]) (by kernel_rfl) rfl rfl rfl rfl rfl rfl bz5 rfl ?_; intro wd hgd hBd) | fail)
    have g0 := hBd.cell (i := 0) rfl
    have g1 := hBd.cell (i := 1) rfl
    obtain ⟨fs, hu, _⟩ := lsS.hu
    refine bodyPost_ret (v := .tuple #[.agg #[.slice aC H.length cC, .slice aD Q.length cD], .int .i64 1]) (by simp [results, Tryd.results30, go_sem, loadVar, isAgg, run_underlying hu, run_sizeOf' lsS.hs, loadCellsFrom, Addr.add, g0, g1]) rfl ?_
    rw [Hh.out]
    have hK9 := hK55.grown hgd (by omega)
    have zd := hgd.size
    have zq2 := q.size
    exact ⟨aC, cC, aD, cD, rfl, hK9.rd.weak (fun k hk => ⟨by omega, hk.2⟩), q5.grown hgd q5.size (fun k e => by injection e with e; omega)⟩
  | false =>
  have hpre := Lib.hid (show fine x = true ∧ okLk H Q ∧ waitsL Q x.owner = false from ⟨hfx2.out, hok2.out, hwt⟩)
  clear hwt hfx2 hok2 hK55
  obtain ⟨D, hF1, hF2, hD, hoH, hoQ, hDw⟩ := hK5
  obtain ⟨W4, eW4⟩ : ∃ W4, W4 = w5 := ⟨_, rfl⟩
  rw [← eW4] at q5 Bx5 bz5 hB5 hF1 hF2 hD z5 ⊢
  clear eW4
  have hB4 := hB5
  have Bx := Bx5
  have hx4 := hxf.below q5
  go_upto_region 4 with (fail)
  refine wp_region_setl (K := fun _ _ => True) (by kernel_rfl) (by kernel_rfl) [1, 2, 4, 5, 6] (by kernel_rfl) [lEq (.agg #[.int .i64 x.owner, .bool x.whole, .int .i64 x.span.table, .slice x1 x.span.lo.length x2, .slice x3 x.span.hi.length x4, .bool x.span.isOpen, .int .i64 x.mode]), lAny, lAny, lEq (.agg #[.slice aC H.length cC, .slice aD Q.length cD]), lAny, lAny, lAny] (AkE W4 x (.slice aC H.length cC) (.slice aD Q.length cD)) (AkE.more W4 x _ _) (AkS.start W4 x _ _)
    ⟨?o0, ?o1, ?o2, ?o3, ?o4, ?o5, ?o6, trivial⟩ ?fin
  case o0 =>
    refine StOp.free rfl (by kernel_rfl) (fun A va D w' hF hT hN hE hd hu hg => ?_)
    have e1 : A.eval (.tmp 3) = .pointer (some ⟨w.heap.size + 1, 0, none⟩) := hF 3 rfl
    have hJB := Bx.below (AkE.be hE) Bx.lt
    exact wp_loadU (us := [.int .i64 x.owner, .bool x.whole, .int .i64 x.span.table, .slice x1 x.span.lo.length x2, .slice x3 x.span.hi.length x4, .bool x.span.isOpen, .int .i64 x.mode]) lkS rfl e1 (fun j u hj => by rw [Nat.zero_add]; exact hJB.cell hj) ⟨_, rfl, rfl, Below.refl _ _⟩
  case o1 =>
    refine StOp.set rfl (by kernel_rfl) (fun A va D w' hF hT hN hE hd hu hg => ?_)
    have e1 : A.eval (.tmp 25) = .agg #[.int .i64 x.owner, .bool x.whole, .int .i64 x.span.table, .slice x1 x.span.lo.length x2, .slice x3 x.span.hi.length x4, .bool x.span.isOpen, .int .i64 x.mode] := (hT 25 0 (by simp) rfl).trans (hg ⟨0, .data⟩ (by simp) rfl rfl)
    have hE2 := hE
    simp only [told, List.map_cons, List.map_nil, hN, Bool.false_eq_true, if_false] at hE2
    refine wp_callFn rfl eAl (by simp only [List.map_toArray, List.map_cons, List.map_nil, e1]) ((lAlone_any w' (hx4.below hE2.be) hx1 hx2).mono ?_)
    rintro e w2 ⟨v, rfl, hv, hb2⟩
    have h5 := AkS.call hE2 hb2 hv
    exact ⟨_, rfl, _, rfl, by simpa [AkE, told, don, upd] using h5, trivial⟩
  case o2 =>
    refine StOp.set rfl (by kernel_rfl) (fun A va D w' hF hT hN hE hd hu hg => ?_)
    have x1 : A.eval (.tmp 26) = va 1 := hT 26 1 (by simp) rfl
    have d1 : D 1 = true := hd ⟨1, .data⟩ (by simp) rfl
    have hE2 := hE
    simp only [told, List.map_cons, List.map_nil, hN, d1, Bool.false_eq_true, if_false, if_true] at hE2
    obtain ⟨a, b, d, e, ev, h5⟩ := AkS.one hE2
    exact wp_bOne rfl (x1.trans ev) ⟨_, rfl, by rw [← ev]; simpa [AkE, told, don, upd, d1] using h5, trivial⟩
  case o3 =>
    refine StOp.free rfl (by kernel_rfl) (fun A va D w' hF hT hN hE hd hu hg => ?_)
    have e1 : A.eval (.tmp 6) = .pointer (some ⟨W1.heap.size, 0, none⟩) := hF 6 rfl
    have hJB := hB4.below (AkE.be hE) hB4.lt
    exact wp_load2 lsS rfl e1 (hJB.cell (i := 0) rfl) (hJB.cell (i := 1) rfl) ⟨_, rfl, rfl, Below.refl _ _⟩
  case o4 =>
    refine StOp.set rfl (by kernel_rfl) (fun A va D w' hF hT hN hE hd hu hg => ?_)
    have x1 : A.eval (.tmp 27) = va 2 := hT 27 2 (by simp) rfl
    have e2 : A.eval (.tmp 28) = .agg #[.slice aC H.length cC, .slice aD Q.length cD] := (hT 28 3 (by simp) rfl).trans (hg ⟨3, .data⟩ (by simp) rfl rfl)
    have d2 : D 2 = true := hd ⟨2, .data⟩ (by simp) rfl
    have hE2 := hE
    simp only [told, List.map_cons, List.map_nil, hN, d2, Bool.false_eq_true, if_false, if_true] at hE2
    obtain ⟨a, b, d, e, ev, h5⟩ := AkS.ask hE2
    exact wp_bAsk rfl (x1.trans ev) e2 ⟨_, rfl, by simpa [AkE, told, don, upd, d2] using h5, trivial⟩
  case o5 =>
    refine StOp.set rfl (by kernel_rfl) (fun A va D w' hF hT hN hE hd hu hg => ?_)
    have hE2 := hE
    simp only [told, List.map_cons, List.map_nil, hN, Bool.false_eq_true, if_false] at hE2
    refine wp_boxNew (vs := [.int .i64 0, .bool false, .int .i64 0, .slice none 0 0, .slice none 0 0, .bool false, .int .i64 0, .slice none 0 0, .slice none 0 0]) (by kernel_rfl) rfl (fun w2 hb2 hz => ⟨_, rfl, ?_, trivial⟩)
    have h5 := AkS.box hE2 hb2 hz
    simpa [AkE, told, don, upd] using h5
  case o6 =>
    refine StOp.set rfl (by kernel_rfl) (fun A va D w' hF hT hN hE hd hu hg => ?_)
    have x1 : A.eval (.tmp 7) = va 5 := hT 7 5 (by simp) rfl
    have x2 : A.eval (.tmp 29) = va 4 := hT 29 4 (by simp) rfl
    have d5 : D 5 = true := hd ⟨5, .data⟩ (by simp) rfl
    have d4 : D 4 = true := hd ⟨4, .data⟩ (by simp) rfl
    have hE2 := hE
    simp only [told, List.map_cons, List.map_nil, hN, d5, d4, Bool.false_eq_true, if_false, if_true] at hE2
    obtain ⟨b, a1, a2, a3, a4, ez, en, hz⟩ := AkS.ready hE2
    refine wp_boxStore (vs := [.int .i64 0, .bool false, .int .i64 0, .slice none 0 0, .slice none 0 0, .bool false, .int .i64 0, .slice none 0 0, .slice none 0 0]) (us := [.int .i64 x.owner, .bool x.whole, .int .i64 x.span.table, .slice a1 x.span.lo.length a2, .slice a3 x.span.hi.length a4, .bool x.span.isOpen, .int .i64 x.mode, .slice aC H.length cC, .slice aD Q.length cD]) (by kernel_rfl) rfl (x1.trans ez) (x2.trans en) rfl hz rfl (fun w2 hg hb => ⟨_, rfl, ?_, trivial⟩)
    have h5 := AkS.store (y := undef) hE2 ez en hg hb
    simpa [AkE, told, don, upd, d5, d4] using h5
  case fin =>
  intro vs1 V4 hE hG
  obtain ⟨bA, p1, p2, p3, p4, ec, em, en, ez, hbA, hA4, hx5, hb5⟩ := AkS.done hE
  have g0 : vs1 0 = .agg #[.int .i64 x.owner, .bool x.whole, .int .i64 x.span.table, .slice x1 x.span.lo.length x2, .slice x3 x.span.hi.length x4, .bool x.span.isOpen, .int .i64 x.mode] := hG 0 (by decide) rfl
  have g3 : vs1 3 = .agg #[.slice aC H.length cC, .slice aD Q.length cD] := hG 3 (by decide) rfl
  clear hE hG
  simp only [putAll, ec, em, en, ez, g0, g3]
  clear ec em en ez g0 g3
  go_simp
  have z6 := hb5.size
  have q6 := q5.trans (hb5.mono q5.size)
  have hDl : ∀ k, D k → k < W4.heap.size := fun k hk => (hD k hk).2.1
  have hB6 := hB4.below hb5 hB4.lt
  have bz6 := bz5.below hb5 bz5.lt
  have hF16 := hF1.below hb5 hDl
  have hF26 := hF2.below hb5 hDl
  have zA := hA4.lt
  clear hb5 hB4 bz5 hF1 hF2 hx4 Bx Bx5 hB5
  have hC4 := lContains_any V4 hF16.rdL _ _ #[] eServed _ (tServed hx5)
  have e0 := hA4.cell (i := 0) rfl
  have e1 := hA4.cell (i := 1) rfl
  have e2 := hA4.cell (i := 2) rfl
  have e3 := hA4.cell (i := 3) rfl
  have e4 := hA4.cell (i := 4) rfl
  have e5 := hA4.cell (i := 5) rfl
  have e6 := hA4.cell (i := 6) rfl
  have e7 := hA4.cell (i := 7) rfl
  have e8 := hA4.cell (i := 8) rfl
  go_wp2_with fail
  refine hC4.mono ?_
  rintro e w6 ⟨rfl, hb⟩
  have z7 := hb.size
  have hA6 := hA4.below hb hA4.lt
  have hx6 := hx5.below hb
  have q7 := q6.trans (hb.mono q6.size)
  have hB7 := hB6.below hb hB6.lt
  have bz7 := bz6.below hb bz6.lt
  have hF17 := hF16.below hb (fun k hk => by have := hDl k hk; omega)
  have hF27 := hF26.below hb (fun k hk => by have := hDl k hk; omega)
  clear e0 e1 e2 e3 e4 e5 e6 e7 e8 hC4 hb hA4 hx5 hB6 bz6 hF16 hF26 q6
  cases hsv : H.any (servesL x) with
  | true =>
    have Hh := Lib.hid (show askL H Q x = (H, Q, 0) by unfold askL; rw [if_pos hpre.out, if_pos hsv])
    clear hsv
    have hK7 : OwnKs W0.heap.size w6 aC aD cC cD H Q := ⟨D, hF17, hF27, fun k hk => ⟨(hD k hk).1, by have := hDl k hk; omega, (hD k hk).2.2⟩, hoH, hoQ⟩
    have d0 := hB7.cell (i := 0) rfl
    have d1 := hB7.cell (i := 1) rfl
    go_wp2_with (first | (refine wpList_boxStore (us := [.slice aC H.length cC, .slice aD Q.length cD]) (by kernel_rfl) rfl rfl rfl rfl rfl rfl bz7 rfl ?_; intro wd hgd hBd) | fail)
    have g0 := hBd.cell (i := 0) rfl
    have g1 := hBd.cell (i := 1) rfl
    obtain ⟨fs, hu, _⟩ := lsS.hu
    refine bodyPost_ret (v := .tuple #[.agg #[.slice aC H.length cC, .slice aD Q.length cD], .int .i64 0]) (by simp [results, Tryd.results30, go_sem, loadVar, isAgg, run_underlying hu, run_sizeOf' lsS.hs, loadCellsFrom, Addr.add, g0, g1]) rfl ?_
    rw [Hh.out]
    have hK9 := hK7.grown hgd (by omega)
    have zd := hgd.size
    have zq2 := q.size
    exact ⟨aC, cC, aD, cD, rfl, hK9.rd.weak (fun k hk => ⟨by omega, hk.2⟩), q7.grown hgd q7.size (fun k e => by injection e with e; omega)⟩
  | false =>
  replace hsv := Lib.hid hsv
  have e7 := hA6.cell (i := 7) rfl
  have e8 := hA6.cell (i := 8) rfl
  by_cases h40 : 40 ≤ H.length + Q.length
  case pos =>
    have d40 : decide ((40 : Int) ≤ (H.length : Int) + (Q.length : Int)) = true := decide_eq_true (by omega)
    have Hh := Lib.hid (show askL H Q x = (H, Q, 111) by unfold askL; rw [if_pos hpre.out, if_neg (by rw [hsv.out]; decide), if_pos h40])
    clear h40
    have hK7 : OwnKs W0.heap.size w6 aC aD cC cD H Q := ⟨D, hF17, hF27, fun k hk => ⟨(hD k hk).1, by have := hDl k hk; omega, (hD k hk).2.2⟩, hoH, hoQ⟩
    have d0 := hB7.cell (i := 0) rfl
    have d1 := hB7.cell (i := 1) rfl
    go_wp2_with (first | (refine wpList_boxStore (us := [.slice aC H.length cC, .slice aD Q.length cD]) (by kernel_rfl) rfl rfl rfl rfl rfl rfl bz7 rfl ?_; intro wd hgd hBd) | fail)
    have g0 := hBd.cell (i := 0) rfl
    have g1 := hBd.cell (i := 1) rfl
    obtain ⟨fs, hu, _⟩ := lsS.hu
    refine bodyPost_ret (v := .tuple #[.agg #[.slice aC H.length cC, .slice aD Q.length cD], .int .i64 111]) (by simp [results, Tryd.results30, go_sem, loadVar, isAgg, run_underlying hu, run_sizeOf' lsS.hs, loadCellsFrom, Addr.add, g0, g1]) rfl ?_
    rw [Hh.out]
    have hK9 := hK7.grown hgd (by omega)
    have zd := hgd.size
    have zq2 := q.size
    exact ⟨aC, cC, aD, cD, rfl, hK9.rd.weak (fun k hk => ⟨by omega, hk.2⟩), q7.grown hgd q7.size (fun k e => by injection e with e; omega)⟩
  have d40 : decide ((40 : Int) ≤ (H.length : Int) + (Q.length : Int)) = false := decide_eq_false (by omega)
  replace h40 := Lib.hid h40
  have hIx := lIndex_any w6 hF17.rdL _ _ #[] eSame _ (tSame hx6)
  have e0 := hA6.cell (i := 0) rfl
  have e1 := hA6.cell (i := 1) rfl
  have e2 := hA6.cell (i := 2) rfl
  have e3 := hA6.cell (i := 3) rfl
  have e4 := hA6.cell (i := 4) rfl
  have e5 := hA6.cell (i := 5) rfl
  have e6 := hA6.cell (i := 6) rfl
  have e7 := hA6.cell (i := 7) rfl
  have e8 := hA6.cell (i := 8) rfl
  go_wp2_with fail
  refine hIx.mono ?_
  rintro e w7 ⟨i, rfl, hi, hb⟩
  have z8 := hb.size
  have hA7 := hA6.below hb hA6.lt
  have hx7 := hx6.below hb
  have q8 := q7.trans (hb.mono q7.size)
  have hB8 := hB7.below hb hB7.lt
  have bz8 := bz7.below hb bz7.lt
  have hF18 := hF17.below hb (fun k hk => by have := hDl k hk; omega)
  have hF28 := hF27.below hb (fun k hk => by have := hDl k hk; omega)
  clear e0 e1 e2 e3 e4 e5 e6 e7 e8 hIx hb hA6 hx6 hB7 bz7 hF17 hF27 q7 d40
  have hask : ∀ y, joined x H = y → (blk y H Q = true → askL H Q x = (H, Q ++ [y], 110)) ∧ (blk y H Q = false → askL H Q x = (heldA y H, Q, 0)) := fun y ey =>
    ⟨fun hb => by unfold askL; rw [if_pos hpre.out, if_neg (by rw [hsv.out]; decide), if_neg h40.out, ey, if_pos hb], fun hb => by unfold askL; rw [if_pos hpre.out, if_neg (by rw [hsv.out]; decide), if_neg h40.out, ey, if_neg (by rw [hb]; decide)]⟩
  rcases hi with ⟨rfl, hno⟩ | ⟨j, hj, rfl, hyj, hno⟩
  · have hak := Lib.hid (hask x (joined_no hno))
    clear hask hno
    go_upto_region 12 with (fail)
    have zT := hA7.lt
    have hC := blocked_any w7 (hT.below q8) hx7 hF18.rdL hF28.rdL
    have e0 := hA7.cell (i := 0) rfl
    have e1 := hA7.cell (i := 1) rfl
    have e2 := hA7.cell (i := 2) rfl
    have e3 := hA7.cell (i := 3) rfl
    have e4 := hA7.cell (i := 4) rfl
    have e5 := hA7.cell (i := 5) rfl
    have e6 := hA7.cell (i := 6) rfl
    have e7 := hA7.cell (i := 7) rfl
    have e8 := hA7.cell (i := 8) rfl
    go_wp2_with fail
    refine hC.mono ?_
    rintro e wb ⟨rfl, hb⟩
    have zb := hb.size
    have hAb := hA7.below hb hA7.lt
    have hxb := (hx7.below hb).weak (S' := (fun k => D k ∨ (W4.heap.size ≤ k ∧ k < V4.heap.size ∧ k ≠ bA))) fun k hk => .inr hk
    have qb := q8.trans (hb.mono q8.size)
    have hBb := hB8.below hb hB8.lt
    have bzb := bz8.below hb bz8.lt
    have hF1b := (hF18.below hb (fun k hk => by have := hDl k hk; omega)).weak (S' := (fun k => D k ∨ (W4.heap.size ≤ k ∧ k < V4.heap.size ∧ k ≠ bA))) fun k hk => .inl hk
    have hF2b := (hF28.below hb (fun k hk => by have := hDl k hk; omega)).weak (S' := (fun k => D k ∨ (W4.heap.size ≤ k ∧ k < V4.heap.size ∧ k ≠ bA))) fun k hk => .inl hk
    have hDs : ∀ k, ((fun k => D k ∨ (W4.heap.size ≤ k ∧ k < V4.heap.size ∧ k ≠ bA))) k → k < wb.heap.size ∧ W0.heap.size ≤ k ∧ k ≠ W1.heap.size ∧ Value.ownBlock (.slice aC H.length cC) ≠ some k ∧ Value.ownBlock (.slice aD Q.length cD) ≠ some k := fun k hk => hk.elim (fun h => ⟨by have := hDl k h; omega, (hD k h).1, by have := hDw k h; omega, (hD k h).2.2⟩) fun h => ⟨by omega, by omega, by omega, fun e => by have := hob.1 k e; omega, fun e => by have := hob.2 k e; omega⟩
    clear e0 e1 e2 e3 e4 e5 e6 e7 e8 hC hb hA7 hx7 hB8 bz8 hF18 hF28 q8
    have f0 := hBb.cell (i := 0) rfl
    have f1 := hBb.cell (i := 1) rfl
    have e0 := hAb.cell (i := 0) rfl
    have e1 := hAb.cell (i := 1) rfl
    have e2 := hAb.cell (i := 2) rfl
    have e3 := hAb.cell (i := 3) rfl
    have e4 := hAb.cell (i := 4) rfl
    have e5 := hAb.cell (i := 5) rfl
    have e6 := hAb.cell (i := 6) rfl
    have e7 := hAb.cell (i := 7) rfl
    have e8 := hAb.cell (i := 8) rfl
    cases hbk : blk x H Q with
    | true =>
      have Hh := Lib.hid (hak.out.1 hbk)
      clear hbk hak
      have hln : (Q ++ [x]).length = Q.length + 1 := by rw [List.length_append]; rfl
      have hbr : Value.ownBlock (.slice aD Q.length cD) ≠ some W1.heap.size := fun e => by have := hob.2 _ e; omega
      have hOb4 : ∀ w4, Below wb.heap.size wb w4 → OwnF Elt.lk 29 (fun k => D k ∨ (W4.heap.size ≤ k ∧ k < V4.heap.size ∧ k ≠ bA)) w4 (.slice aD Q.length cD) Q := fun w4 hb4 => hF2b.below hb4 fun k hk => (hDs k hk).1
      have hS4 : ∀ w4, Below wb.heap.size wb w4 → ∀ k, ((fun k => D k ∨ (W4.heap.size ≤ k ∧ k < V4.heap.size ∧ k ≠ bA))) k → k < w4.heap.size ∧ some k ≠ Value.ownBlock (.slice aD Q.length cD) := fun w4 hb4 k hk => ⟨by have := (hDs k hk).1; have := hb4.size; omega, fun e => (hDs k hk).2.2.2.2 e.symm⟩
      go_wp2_with (first
        | (refine wpList_buildOne lkP rfl rfl rfl (us := [.int .i64 x.owner, .bool x.whole, .int .i64 x.span.table, .slice p1 x.span.lo.length p2, .slice p3 x.span.hi.length p4, .bool x.span.isOpen, .int .i64 x.mode]) rfl rfl (by decide) (by decide) ?_; intro wc hbc hrow)
        | (refine wpList_appF (E := Elt.lk) (n := Q.length + 1) lkP rfl rfl rfl rfl (hOb4 _ hbc) hrow (Elt.below hxb.R hbc) (hS4 _ hbc) (by omega) rfl ?_; intro ad9 c9 wd hO9 hgd ho9)
        | (refine wpList_boxSet (j := 1) rfl rfl rfl (by kernel_rfl) rfl rfl rfl rfl ((hBb.below hbc hBb.lt).other hgd hbr) (by simp) ?_; intro we hge hBe; have g0 := hBe.cell (i := 0) rfl; have g1 := hBe.cell (i := 1) rfl)
        | (refine wpList_boxStore (us := [.slice aC H.length cC, .slice ad9 (Q.length + 1) c9]) (by kernel_rfl) rfl rfl rfl rfl rfl rfl (((bzb.below hbc bzb.lt).other hgd (fun e => by have := hob.2 _ e; omega)).other hge (fun e => by injection e with e; omega)) rfl ?_; intro wf hgf hBf)
        | fail)
      have zc := hbc.size
      have zd := hgd.size
      have ze := hge.size
      have zf := hgf.size
      have hob9 : ∀ g, Value.ownBlock (.slice ad9 (Q.length + 1) c9) = some g → W0.heap.size ≤ g ∧ g ≠ W1.heap.size ∧ g < wd.heap.size := fun g hg => ⟨by
        rcases ho9 with e | ⟨k9, e, h9⟩
        · rw [e] at hg; have := hob.2 g hg; omega
        · rw [e] at hg; injection hg with hg; omega, by
        rcases ho9 with e | ⟨k9, e, h9⟩
        · rw [e] at hg; have := hob.2 g hg; omega
        · rw [e] at hg; injection hg with hg; omega, hO9.lt hg⟩
      have hkp : ∀ k, k < wb.heap.size → Value.ownBlock (.slice aD Q.length cD) ≠ some k → k ≠ W1.heap.size → W0.heap.size ≤ k → wf.heap[k]? = wb.heap[k]? := fun k h1 h2 h3 h4 => (((hgf.block k (by omega) fun e => by injection e with e; omega).trans (hge.block k (by omega) fun e => by injection e with e; exact h3 e)).trans (hgd.block k (by omega) fun e => h2 e.symm)).trans (hbc.block k h1)
      have hkD : ∀ k, ((fun k => D k ∨ (W4.heap.size ≤ k ∧ k < V4.heap.size ∧ k ≠ bA))) k → wf.heap[k]? = wb.heap[k]? := fun k hk => hkp k (hDs k hk).1 (hDs k hk).2.2.2.2 (hDs k hk).2.2.1 (hDs k hk).2.1
      have hH9 := hF1b.kept (w' := wf) (fun g hg => hkp g (hF1b.lt hg) (hoH g hg).2 (by have := hob.1 g hg; omega) (hoH g hg).1) hkD
      have hQ9 := (hO9.kept (w' := wf) (fun g hg => (hgf.block g (by have := hob9 g hg; omega) fun e => by injection e with e; have := hob9 g hg; omega).trans (hge.block g (hob9 g hg).2.2 fun e => by injection e with e; exact (hob9 g hg).2.1 e)) (fun k hk => (hgf.block k (by have := (hDs k hk).1; omega) fun e => by injection e with e; have := (hDs k hk).2.1; omega).trans (hge.block k (by have := (hDs k hk).1; omega) fun e => by injection e with e; exact (hDs k hk).2.2.1 e)))
      have g0 := hBf.cell (i := 0) rfl
      have g1 := hBf.cell (i := 1) rfl
      obtain ⟨fs, hu, _⟩ := lsS.hu
      refine bodyPost_ret (v := .tuple #[.agg #[.slice aC H.length cC, .slice ad9 (Q.length + 1) c9], .int .i64 110]) (by simp [results, Tryd.results30, go_sem, loadVar, isAgg, run_underlying hu, run_sizeOf' lsS.hs, loadCellsFrom, Addr.add, g0, g1]) rfl ?_
      rw [Hh.out]
      have zq := q.size
      rw [← hln] at hQ9 ⊢
      exact ⟨_, _, _, _, rfl, ⟨_, _, _, _, rfl, hH9.rdL.weak (fun k hk => hk.elim (fun h => ⟨by have := (hDs k h).2.1; omega, by have := (hDs k h).1; omega⟩) fun h => ⟨by have := (hoH k h).1; omega, hH9.lt h⟩), hQ9.rdL.weak (fun k hk => hk.elim (fun h => ⟨by have := (hDs k h).2.1; omega, by have := (hDs k h).1; omega⟩) fun h => ⟨by rw [hln] at h; have := hob9 k h; omega, hQ9.lt h⟩)⟩, (((qb.trans (hbc.mono qb.size)).grown hgd (qb.trans (hbc.mono qb.size)).size (fun k e => by have := hob.2 k e; omega)).grown hge (by omega) (fun k e => by injection e with e; omega)).grown hgf (by omega) (fun k e => by injection e with e; omega)⟩
    | false =>
      have Hh := Lib.hid (hak.out.2 hbk)
      clear hbk hak
      have hh := held_any wb (aQ := aD) (nQ := Q.length) (cQ := cD) hxb hF1b (fun k hk => ⟨(hDs k hk).1, (hDs k hk).2.2.2.1⟩) (by omega)
      go_wp2_with fail
      refine hh.mono ?_
      rintro e wd ⟨a9, c9, rfl, hO9, hgd, ho9⟩
      have zd := hgd.size
      have hBd := hBb.other hgd (fun e => by have := hob.1 _ e; omega)
      have hob9 : ∀ g, Value.ownBlock (.slice a9 (heldA x H).length c9) = some g → W0.heap.size ≤ g ∧ g ≠ W1.heap.size ∧ g < wd.heap.size := fun g hg => ⟨by
        rcases ho9 with e | ⟨k9, e, h9⟩
        · rw [e] at hg; have := hob.1 g hg; omega
        · rw [e] at hg; injection hg with hg; omega, by
        rcases ho9 with e | ⟨k9, e, h9⟩
        · rw [e] at hg; have := hob.1 g hg; omega
        · rw [e] at hg; injection hg with hg; omega, hO9.lt hg⟩
      obtain ⟨L, eL⟩ : ∃ L, L = heldA x H := ⟨_, rfl⟩
      rw [← eL] at hO9 hob9 Hh ⊢
      clear hh e0 e1 e2 e3 e4 e5 e6 e7 e8 f0 f1 ho9 eL
      go_wp2_with (first
        | (refine wpList_boxSet (j := 0) rfl rfl rfl (by kernel_rfl) rfl rfl rfl rfl hBd (by simp) ?_; intro we hge hBe; have g0 := hBe.cell (i := 0) rfl; have g1 := hBe.cell (i := 1) rfl)
        | (refine wpList_boxStore (us := [.slice a9 L.length c9, .slice aD Q.length cD]) (by kernel_rfl) rfl rfl rfl rfl rfl rfl ((bzb.other hgd (fun e => by have := hob.1 _ e; omega)).other hge (fun e => by injection e with e; omega)) rfl ?_; intro wf hgf hBf)
        | fail)
      have ze := hge.size
      have zf := hgf.size
      have hkp : ∀ k, k < wb.heap.size → Value.ownBlock (.slice aC H.length cC) ≠ some k → k ≠ W1.heap.size → W0.heap.size ≤ k → wf.heap[k]? = wb.heap[k]? := fun k h1 h2 h3 h4 => ((hgf.block k (by omega) fun e => by injection e with e; omega).trans (hge.block k (by omega) fun e => by injection e with e; exact h3 e)).trans (hgd.block k h1 fun e => h2 e.symm)
      have hkD : ∀ k, ((fun k => D k ∨ (W4.heap.size ≤ k ∧ k < V4.heap.size ∧ k ≠ bA))) k → wf.heap[k]? = wb.heap[k]? := fun k hk => hkp k (hDs k hk).1 (hDs k hk).2.2.2.1 (hDs k hk).2.2.1 (hDs k hk).2.1
      have hQ9 := hF2b.kept (w' := wf) (fun g hg => hkp g (hF2b.lt hg) (fun e => (hoH g e).2 hg) (by have := hob.2 g hg; omega) (hoQ g hg)) hkD
      have hH9 := (hO9.kept (w' := wf) (fun g hg => (hgf.block g (by have := hob9 g hg; omega) fun e => by injection e with e; have := hob9 g hg; omega).trans (hge.block g (hob9 g hg).2.2 fun e => by injection e with e; exact (hob9 g hg).2.1 e)) (fun k hk => (hgf.block k (by have := (hDs k hk).1; omega) fun e => by injection e with e; have := (hDs k hk).2.1; omega).trans (hge.block k (by have := (hDs k hk).1; omega) fun e => by injection e with e; exact (hDs k hk).2.2.1 e)))
      have g0 := hBf.cell (i := 0) rfl
      have g1 := hBf.cell (i := 1) rfl
      obtain ⟨fs, hu, _⟩ := lsS.hu
      refine bodyPost_ret (v := .tuple #[.agg #[.slice a9 L.length c9, .slice aD Q.length cD], .int .i64 0]) (by simp [results, Tryd.results30, go_sem, loadVar, isAgg, run_underlying hu, run_sizeOf' lsS.hs, loadCellsFrom, Addr.add, g0, g1]) rfl ?_
      rw [Hh.out]
      have zq := q.size
      exact ⟨_, _, _, _, rfl, ⟨_, _, _, _, rfl, hH9.rdL.weak (fun k hk => hk.elim (fun h => ⟨by have := (hDs k h).2.1; omega, by have := (hDs k h).1; omega⟩) fun h => ⟨by have := hob9 k h; omega, hH9.lt h⟩), hQ9.rdL.weak (fun k hk => hk.elim (fun h => ⟨by have := (hDs k h).2.1; omega, by have := (hDs k h).1; omega⟩) fun h => ⟨by have := hoQ k h; omega, hQ9.lt h⟩)⟩, ((qb.grown hgd qb.size (fun k e => by have := hob.1 k e; omega)).grown hge (by omega) (fun k e => by injection e with e; omega)).grown hgf (by omega) (fun k e => by injection e with e; omega)⟩
  · have hak := Lib.hid (hask { x with mode := joinM x.mode H[j].mode } (joined_at hj hyj hno))
    clear hask hno hyj
    obtain ⟨gH, KA, KC, VA, VC, rfl, _, _, _, _, _, _, hcm, _, _, _⟩ := hF18.lk j hj
    have hgH : gH < w7.heap.size := hF18.lt rfl
    have d0j : decide ((0 : Int) ≤ (j : Int)) = true := decide_eq_true (by omega)
    have hjl : ((j : Nat) : Int) < (H.length : Int) := by omega
    go_upto_region 11 with (fail)
    refine wp_region_lnl (K := fun A B => A.grownBy B (some bA)) (by kernel_rfl) (by kernel_rfl) [11, 15] (by kernel_rfl) [lEq (.pointer (some ⟨bA, 0 + 0, none⟩)), lEq (.pointer (some ⟨bA, 0 + 0 + 0, none⟩)), lEq (.pointer (some ⟨bA, 0 + 0 + 0 + 6, none⟩)), lEq (.int .i64 x.mode), lEq (.pointer (some ⟨bA, 0 + 7, none⟩)), lEq (.pointer (some ⟨bA, 0 + 7 + 0, none⟩)), lEq (.slice (some ⟨gH, 0, none⟩) H.length cC), lEq (.int .i64 ((j : Nat) : Int)), lEq (.pointer (some ⟨gH, 0 + j * 7, none⟩)), lEq (.pointer (some ⟨gH, 0 + j * 7 + 6, none⟩)), lEq (.int .i64 H[j].mode), lAny, lEq (.pointer (some ⟨bA, 0 + 0, none⟩)), lEq (.pointer (some ⟨bA, 0 + 0 + 0, none⟩)), lEq (.pointer (some ⟨bA, 0 + 0 + 0 + 6, none⟩)), lAny] (JoJ w7 bA (.int .i64 (joinM x.mode H[j].mode)) [.int .i64 x.owner, .bool x.whole, .int .i64 x.span.table, .slice p1 x.span.lo.length p2, .slice p3 x.span.hi.length p4, .bool x.span.isOpen, .int .i64 (joinM x.mode H[j].mode), .slice (some ⟨gH, 0, none⟩) H.length cC, .slice aD Q.length cD]) JoJ.below (show Below w7.heap.size w7 w7 from Below.refl _ _)
      ⟨?o0, ?o1, ?o2, ?o3, ?o4, ?o5, ?o6, ?o7, ?o8, ?o9, ?o10, ?o11, ?o12, ?o13, ?o14, ?o15, trivial⟩ ?fin
    case o0 =>
      refine LnOp.side rfl (by kernel_rfl) (fun A va w' k hF hT hk hJ hb hu hp hd => ?_)
      have e1 : A.eval (.tmp 7) = .pointer (some ⟨bA, 0, none⟩) := hF 7 rfl
      exact wp_fieldO askF0 rfl (e1) ⟨_, rfl, rfl, Below.refl _ _⟩
    case o1 =>
      refine LnOp.side rfl (by kernel_rfl) (fun A va w' k hF hT hk hJ hb hu hp hd => ?_)
      have e1 : A.eval (.tmp 60) = .pointer (some ⟨bA, 0 + 0, none⟩) := (hT 60 0 (by simp) rfl).trans (hd ⟨0, .data⟩ (by simp) rfl rfl)
      exact wp_fieldO oneF0 rfl (e1) ⟨_, rfl, rfl, Below.refl _ _⟩
    case o2 =>
      refine LnOp.side rfl (by kernel_rfl) (fun A va w' k hF hT hk hJ hb hu hp hd => ?_)
      have e1 : A.eval (.tmp 61) = .pointer (some ⟨bA, 0 + 0 + 0, none⟩) := (hT 61 1 (by simp) rfl).trans (hd ⟨1, .data⟩ (by simp) rfl rfl)
      exact wp_fieldO lkF3 rfl (e1) ⟨_, rfl, rfl, Below.refl _ _⟩
    case o3 =>
      refine LnOp.side rfl (by kernel_rfl) (fun A va w' k hF hT hk hJ hb hu hp hd => ?_)
      have e1 : A.eval (.tmp 62) = .pointer (some ⟨bA, 0 + 0 + 0 + 6, none⟩) := (hT 62 2 (by simp) rfl).trans (hd ⟨2, .data⟩ (by simp) rfl rfl)
      obtain rfl : k = 0 := by have := hb 0 11 rfl (by kernel_rfl); omega
      have hJ0 : Below w7.heap.size w7 w' := hJ
      exact wp_ld_int (k := .i64) rfl e1 (by kernel_rfl) ((hA7.below hJ0 hA7.lt).cell (i := 6) rfl) ⟨_, rfl, rfl, Below.refl _ _⟩
    case o4 =>
      refine LnOp.side rfl (by kernel_rfl) (fun A va w' k hF hT hk hJ hb hu hp hd => ?_)
      have e1 : A.eval (.tmp 7) = .pointer (some ⟨bA, 0, none⟩) := hF 7 rfl
      exact wp_fieldO askF1 rfl (e1) ⟨_, rfl, rfl, Below.refl _ _⟩
    case o5 =>
      refine LnOp.side rfl (by kernel_rfl) (fun A va w' k hF hT hk hJ hb hu hp hd => ?_)
      have e1 : A.eval (.tmp 64) = .pointer (some ⟨bA, 0 + 7, none⟩) := (hT 64 4 (by simp) rfl).trans (hd ⟨4, .data⟩ (by simp) rfl rfl)
      exact wp_fieldN lsS rfl (e1) (by omega) ⟨_, rfl, rfl, Below.refl _ _⟩
    case o6 =>
      refine LnOp.side rfl (by kernel_rfl) (fun A va w' k hF hT hk hJ hb hu hp hd => ?_)
      have e1 : A.eval (.tmp 65) = .pointer (some ⟨bA, 0 + 7 + 0, none⟩) := (hT 65 5 (by simp) rfl).trans (hd ⟨5, .data⟩ (by simp) rfl rfl)
      exact wp_ld_slice (e := 29) rfl e1 (by kernel_rfl) (JoJ.cell hA7 (i := 7) rfl rfl hJ) ⟨_, rfl, rfl, Below.refl _ _⟩
    case o7 =>
      refine LnOp.side rfl (by kernel_rfl) (fun A va w' k hF hT hk hJ hb hu hp hd => ?_)
      have e1 : A.eval (.tmp 8) = .int .i64 ((j : Nat) : Int) := hF 8 rfl
      exact BigFrame.wp_move _ rfl ⟨_, rfl, e1, Below.refl _ _⟩
    case o8 =>
      refine LnOp.side rfl (by kernel_rfl) (fun A va w' k hF hT hk hJ hb hu hp hd => ?_)
      have e1 : A.eval (.tmp 66) = .slice (some ⟨gH, 0, none⟩) H.length cC := (hT 66 6 (by simp) rfl).trans (hd ⟨6, .data⟩ (by simp) rfl rfl)
      have e2 : A.eval (.tmp 67) = .int .i64 ((j : Nat) : Int) := (hT 67 7 (by simp) rfl).trans (hd ⟨7, .data⟩ (by simp) rfl rfl)
      exact wp_ixN (e := 29) rfl (by kernel_rfl) (by kernel_rfl) (e1) (e2) rfl (by omega) ⟨_, rfl, rfl, Below.refl _ _⟩
    case o9 =>
      refine LnOp.side rfl (by kernel_rfl) (fun A va w' k hF hT hk hJ hb hu hp hd => ?_)
      have e1 : A.eval (.tmp 68) = .pointer (some ⟨gH, 0 + j * 7, none⟩) := (hT 68 8 (by simp) rfl).trans (hd ⟨8, .data⟩ (by simp) rfl rfl)
      exact wp_fieldO lkF3 rfl (e1) ⟨_, rfl, rfl, Below.refl _ _⟩
    case o10 =>
      refine LnOp.side rfl (by kernel_rfl) (fun A va w' k hF hT hk hJ hb hu hp hd => ?_)
      have e1 : A.eval (.tmp 69) = .pointer (some ⟨gH, 0 + j * 7 + 6, none⟩) := (hT 69 9 (by simp) rfl).trans (hd ⟨9, .data⟩ (by simp) rfl rfl)
      obtain rfl : k = 0 := by have := hb 0 11 rfl (by kernel_rfl); omega
      have hJ0 : Below w7.heap.size w7 w' := hJ
      exact wp_ld_int (k := .i64) rfl e1 (by kernel_rfl) (by have := (cell_keep (hJ0.block gH hgH) (j * 7 + 6)).trans hcm; rw [show 0 + j * 7 + 6 = j * 7 + 6 by omega]; exact this) ⟨_, rfl, rfl, Below.refl _ _⟩
    case o11 =>
      refine LnOp.line 0 rfl rfl (fun A va w' hF hT hJ hu hd => ?_)
      have e1 : A.eval (.tmp 63) = .int .i64 x.mode := (hT 63 3 (by simp) rfl).trans (hd ⟨3, .data⟩ (by simp) rfl rfl)
      have e2 : A.eval (.tmp 70) = .int .i64 H[j].mode := (hT 70 10 (by simp) rfl).trans (hd ⟨10, .data⟩ (by simp) rfl rfl)
      have hJ0 : Below w7.heap.size w7 w' := hJ
      refine wp_callFn rfl eJo (by simp only [List.map_toArray, List.map_cons, List.map_nil, e1, e2]) ((join_any w' x.mode H[j].mode).mono ?_)
      rintro e w2 ⟨rfl, rfl⟩
      exact ⟨_, rfl, _, rfl, ⟨hJ0, rfl⟩, grownB (Below.refl _ _) _⟩
    case o12 =>
      refine LnOp.side rfl (by kernel_rfl) (fun A va w' k hF hT hk hJ hb hu hp hd => ?_)
      have e1 : A.eval (.tmp 7) = .pointer (some ⟨bA, 0, none⟩) := hF 7 rfl
      exact wp_fieldO askF0 rfl (e1) ⟨_, rfl, rfl, Below.refl _ _⟩
    case o13 =>
      refine LnOp.side rfl (by kernel_rfl) (fun A va w' k hF hT hk hJ hb hu hp hd => ?_)
      have e1 : A.eval (.tmp 72) = .pointer (some ⟨bA, 0 + 0, none⟩) := (hT 72 12 (by simp) rfl).trans (hd ⟨12, .data⟩ (by simp) rfl rfl)
      exact wp_fieldO oneF0 rfl (e1) ⟨_, rfl, rfl, Below.refl _ _⟩
    case o14 =>
      refine LnOp.side rfl (by kernel_rfl) (fun A va w' k hF hT hk hJ hb hu hp hd => ?_)
      have e1 : A.eval (.tmp 73) = .pointer (some ⟨bA, 0 + 0 + 0, none⟩) := (hT 73 13 (by simp) rfl).trans (hd ⟨13, .data⟩ (by simp) rfl rfl)
      exact wp_fieldO lkF3 rfl (e1) ⟨_, rfl, rfl, Below.refl _ _⟩
    case o15 =>
      refine LnOp.line 1 rfl rfl (fun A va w' hF hT hJ hu hd => ?_)
      have e1 : A.eval (.tmp 74) = .pointer (some ⟨bA, 0 + 0 + 0 + 6, none⟩) := (hT 74 14 (by simp) rfl).trans (hd ⟨14, .data⟩ (by simp) rfl rfl)
      have x2 : A.eval (.tmp 71) = va 11 := hT 71 11 (by simp) rfl
      obtain ⟨hJ0, ev⟩ := hJ
      refine wp_boxSet (j := 6) rfl (by kernel_rfl) e1 (x2.trans ev) rfl rfl (hA7.below hJ0 hA7.lt) (by simp) (fun w2 hg hB2 => ?_)
      exact ⟨_, rfl, ⟨grownT (grownB hJ0 _) hg, hB2⟩, hg⟩
    case fin =>
      intro vs1 V9 hJ hG
      obtain ⟨hg9, hAj⟩ := hJ
      have g0 : vs1 0 = .pointer (some ⟨bA, 0 + 0, none⟩) := hG 0 (by decide) rfl
      have g1 : vs1 1 = .pointer (some ⟨bA, 0 + 0 + 0, none⟩) := hG 1 (by decide) rfl
      have g2 : vs1 2 = .pointer (some ⟨bA, 0 + 0 + 0 + 6, none⟩) := hG 2 (by decide) rfl
      have g3 : vs1 3 = .int .i64 x.mode := hG 3 (by decide) rfl
      have g4 : vs1 4 = .pointer (some ⟨bA, 0 + 7, none⟩) := hG 4 (by decide) rfl
      have g5 : vs1 5 = .pointer (some ⟨bA, 0 + 7 + 0, none⟩) := hG 5 (by decide) rfl
      have g6 : vs1 6 = .slice (some ⟨gH, 0, none⟩) H.length cC := hG 6 (by decide) rfl
      have g7 : vs1 7 = .int .i64 ((j : Nat) : Int) := hG 7 (by decide) rfl
      have g8 : vs1 8 = .pointer (some ⟨gH, 0 + j * 7, none⟩) := hG 8 (by decide) rfl
      have g9 : vs1 9 = .pointer (some ⟨gH, 0 + j * 7 + 6, none⟩) := hG 9 (by decide) rfl
      have g10 : vs1 10 = .int .i64 H[j].mode := hG 10 (by decide) rfl
      have g12 : vs1 12 = .pointer (some ⟨bA, 0 + 0, none⟩) := hG 12 (by decide) rfl
      have g13 : vs1 13 = .pointer (some ⟨bA, 0 + 0 + 0, none⟩) := hG 13 (by decide) rfl
      have g14 : vs1 14 = .pointer (some ⟨bA, 0 + 0 + 0 + 6, none⟩) := hG 14 (by decide) rfl
      clear hG
      simp only [putAll, g0, g1, g2, g3, g4, g5, g6, g7, g8, g9, g10, g12, g13, g14]
      clear g0 g1 g2 g3 g4 g5 g6 g7 g8 g9 g10 g12 g13 g14
      go_simp
      obtain ⟨y, ey⟩ : ∃ y : Lk, y = { x with mode := joinM x.mode H[j].mode } := ⟨_, rfl⟩
      have z9 := hg9.size
      have hA9 : BoxN V9 bA 61 [.int .i64 y.owner, .bool y.whole, .int .i64 y.span.table, .slice p1 y.span.lo.length p2, .slice p3 y.span.hi.length p4, .bool y.span.isOpen, .int .i64 y.mode, .slice (some ⟨gH, 0, none⟩) H.length cC, .slice aD Q.length cD] := by rw [ey]; exact hAj
      have hx9 : RdLk (fun k => W4.heap.size ≤ k ∧ k < V4.heap.size ∧ k ≠ bA) V9 (.agg #[.int .i64 y.owner, .bool y.whole, .int .i64 y.span.table, .slice p1 y.span.lo.length p2, .slice p3 y.span.hi.length p4, .bool y.span.isOpen, .int .i64 y.mode]) y := by
        rw [ey]
        have h9 := hx7.keep (w' := V9) fun k hk => hg9.block k (by omega) fun e => by injection e with e; exact hk.2.2 e
        obtain ⟨_, _, e, h1, h2, h3⟩ := h9.R
        injection e with _ e
        injection e with _ e
        injection e with _ e
        injection e with f1 e
        injection e with f2 _
        rw [← f1] at h1
        rw [← f2] at h2
        exact ⟨_, _, _, _, rfl, h1, h2, h3.1, h3.2.1, join_w64 _ _⟩
      rw [← ey] at hak
      have hB9 := hB8.other hg9 (fun e => by injection e with e; omega)
      have bz9 := bz8.other hg9 (fun e => by injection e with e; omega)
      have hk9 : ∀ k, k < W4.heap.size → V9.heap[k]? = w7.heap[k]? := fun k hk => hg9.block k (by omega) fun e => by injection e with e; omega
      have hF19 := hF18.kept (w' := V9) (fun g hg => hk9 g (by have := hob.1 g hg; omega)) fun k hk => hk9 k (hDl k hk)
      have hF29 := hF28.kept (w' := V9) (fun g hg => hk9 g (by have := hob.2 g hg; omega)) fun k hk => hk9 k (hDl k hk)
      have q9 := q8.grown hg9 q8.size (fun k e => by injection e with e; omega)
      clear hAj hA7 hx7 hB8 bz8 hF18 hF28 q8 hg9 hk9 ey hcm d0j hjl
      have zT := hA9.lt
      have hC := blocked_any V9 (hT.below q9) hx9 hF19.rdL hF29.rdL
      have e0 := hA9.cell (i := 0) rfl
      have e1 := hA9.cell (i := 1) rfl
      have e2 := hA9.cell (i := 2) rfl
      have e3 := hA9.cell (i := 3) rfl
      have e4 := hA9.cell (i := 4) rfl
      have e5 := hA9.cell (i := 5) rfl
      have e6 := hA9.cell (i := 6) rfl
      have e7 := hA9.cell (i := 7) rfl
      have e8 := hA9.cell (i := 8) rfl
      go_wp2_with fail
      refine hC.mono ?_
      rintro e wb ⟨rfl, hb⟩
      have zb := hb.size
      have hAb := hA9.below hb hA9.lt
      have hxb := (hx9.below hb).weak (S' := (fun k => D k ∨ (W4.heap.size ≤ k ∧ k < V4.heap.size ∧ k ≠ bA))) fun k hk => .inr hk
      have qb := q9.trans (hb.mono q9.size)
      have hBb := hB9.below hb hB9.lt
      have bzb := bz9.below hb bz9.lt
      have hF1b := (hF19.below hb (fun k hk => by have := hDl k hk; omega)).weak (S' := (fun k => D k ∨ (W4.heap.size ≤ k ∧ k < V4.heap.size ∧ k ≠ bA))) fun k hk => .inl hk
      have hF2b := (hF29.below hb (fun k hk => by have := hDl k hk; omega)).weak (S' := (fun k => D k ∨ (W4.heap.size ≤ k ∧ k < V4.heap.size ∧ k ≠ bA))) fun k hk => .inl hk
      have hDs : ∀ k, ((fun k => D k ∨ (W4.heap.size ≤ k ∧ k < V4.heap.size ∧ k ≠ bA))) k → k < wb.heap.size ∧ W0.heap.size ≤ k ∧ k ≠ W1.heap.size ∧ Value.ownBlock (.slice (some ⟨gH, 0, none⟩) H.length cC) ≠ some k ∧ Value.ownBlock (.slice aD Q.length cD) ≠ some k := fun k hk => hk.elim (fun h => ⟨by have := hDl k h; omega, (hD k h).1, by have := hDw k h; omega, (hD k h).2.2⟩) fun h => ⟨by omega, by omega, by omega, fun e => by have := hob.1 k e; omega, fun e => by have := hob.2 k e; omega⟩
      clear e0 e1 e2 e3 e4 e5 e6 e7 e8 hC hb hA9 hx9 hB9 bz9 hF19 hF29 q9
      have f0 := hBb.cell (i := 0) rfl
      have f1 := hBb.cell (i := 1) rfl
      have e0 := hAb.cell (i := 0) rfl
      have e1 := hAb.cell (i := 1) rfl
      have e2 := hAb.cell (i := 2) rfl
      have e3 := hAb.cell (i := 3) rfl
      have e4 := hAb.cell (i := 4) rfl
      have e5 := hAb.cell (i := 5) rfl
      have e6 := hAb.cell (i := 6) rfl
      have e7 := hAb.cell (i := 7) rfl
      have e8 := hAb.cell (i := 8) rfl
      cases hbk : blk y H Q with
      | true =>
        have Hh := Lib.hid (hak.out.1 hbk)
        clear hbk hak
        have hln : (Q ++ [y]).length = Q.length + 1 := by rw [List.length_append]; rfl
        have hbr : Value.ownBlock (.slice aD Q.length cD) ≠ some W1.heap.size := fun e => by have := hob.2 _ e; omega
        have hOb4 : ∀ w4, Below wb.heap.size wb w4 → OwnF Elt.lk 29 (fun k => D k ∨ (W4.heap.size ≤ k ∧ k < V4.heap.size ∧ k ≠ bA)) w4 (.slice aD Q.length cD) Q := fun w4 hb4 => hF2b.below hb4 fun k hk => (hDs k hk).1
        have hS4 : ∀ w4, Below wb.heap.size wb w4 → ∀ k, ((fun k => D k ∨ (W4.heap.size ≤ k ∧ k < V4.heap.size ∧ k ≠ bA))) k → k < w4.heap.size ∧ some k ≠ Value.ownBlock (.slice aD Q.length cD) := fun w4 hb4 k hk => ⟨by have := (hDs k hk).1; have := hb4.size; omega, fun e => (hDs k hk).2.2.2.2 e.symm⟩
        go_wp2_with (first
          | (refine wpList_buildOne lkP rfl rfl rfl (us := [.int .i64 y.owner, .bool y.whole, .int .i64 y.span.table, .slice p1 y.span.lo.length p2, .slice p3 y.span.hi.length p4, .bool y.span.isOpen, .int .i64 y.mode]) rfl rfl (by decide) (by decide) ?_; intro wc hbc hrow)
          | (refine wpList_appF (E := Elt.lk) (n := Q.length + 1) lkP rfl rfl rfl rfl (hOb4 _ hbc) hrow (Elt.below hxb.R hbc) (hS4 _ hbc) (by omega) rfl ?_; intro ad9 c9 wd hO9 hgd ho9)
          | (refine wpList_boxSet (j := 1) rfl rfl rfl (by kernel_rfl) rfl rfl rfl rfl ((hBb.below hbc hBb.lt).other hgd hbr) (by simp) ?_; intro we hge hBe; have g0 := hBe.cell (i := 0) rfl; have g1 := hBe.cell (i := 1) rfl)
          | (refine wpList_boxStore (us := [.slice (some ⟨gH, 0, none⟩) H.length cC, .slice ad9 (Q.length + 1) c9]) (by kernel_rfl) rfl rfl rfl rfl rfl rfl (((bzb.below hbc bzb.lt).other hgd (fun e => by have := hob.2 _ e; omega)).other hge (fun e => by injection e with e; omega)) rfl ?_; intro wf hgf hBf)
          | fail)
        have zc := hbc.size
        have zd := hgd.size
        have ze := hge.size
        have zf := hgf.size
        have hob9 : ∀ g, Value.ownBlock (.slice ad9 (Q.length + 1) c9) = some g → W0.heap.size ≤ g ∧ g ≠ W1.heap.size ∧ g < wd.heap.size := fun g hg => ⟨by
          rcases ho9 with e | ⟨k9, e, h9⟩
          · rw [e] at hg; have := hob.2 g hg; omega
          · rw [e] at hg; injection hg with hg; omega, by
          rcases ho9 with e | ⟨k9, e, h9⟩
          · rw [e] at hg; have := hob.2 g hg; omega
          · rw [e] at hg; injection hg with hg; omega, hO9.lt hg⟩
        have hkp : ∀ k, k < wb.heap.size → Value.ownBlock (.slice aD Q.length cD) ≠ some k → k ≠ W1.heap.size → W0.heap.size ≤ k → wf.heap[k]? = wb.heap[k]? := fun k h1 h2 h3 h4 => (((hgf.block k (by omega) fun e => by injection e with e; omega).trans (hge.block k (by omega) fun e => by injection e with e; exact h3 e)).trans (hgd.block k (by omega) fun e => h2 e.symm)).trans (hbc.block k h1)
        have hkD : ∀ k, ((fun k => D k ∨ (W4.heap.size ≤ k ∧ k < V4.heap.size ∧ k ≠ bA))) k → wf.heap[k]? = wb.heap[k]? := fun k hk => hkp k (hDs k hk).1 (hDs k hk).2.2.2.2 (hDs k hk).2.2.1 (hDs k hk).2.1
        have hH9 := hF1b.kept (w' := wf) (fun g hg => hkp g (hF1b.lt hg) (hoH g hg).2 (by have := hob.1 g hg; omega) (hoH g hg).1) hkD
        have hQ9 := (hO9.kept (w' := wf) (fun g hg => (hgf.block g (by have := hob9 g hg; omega) fun e => by injection e with e; have := hob9 g hg; omega).trans (hge.block g (hob9 g hg).2.2 fun e => by injection e with e; exact (hob9 g hg).2.1 e)) (fun k hk => (hgf.block k (by have := (hDs k hk).1; omega) fun e => by injection e with e; have := (hDs k hk).2.1; omega).trans (hge.block k (by have := (hDs k hk).1; omega) fun e => by injection e with e; exact (hDs k hk).2.2.1 e)))
        have g0 := hBf.cell (i := 0) rfl
        have g1 := hBf.cell (i := 1) rfl
        obtain ⟨fs, hu, _⟩ := lsS.hu
        refine bodyPost_ret (v := .tuple #[.agg #[.slice (some ⟨gH, 0, none⟩) H.length cC, .slice ad9 (Q.length + 1) c9], .int .i64 110]) (by simp [results, Tryd.results30, go_sem, loadVar, isAgg, run_underlying hu, run_sizeOf' lsS.hs, loadCellsFrom, Addr.add, g0, g1]) rfl ?_
        rw [Hh.out]
        have zq := q.size
        rw [← hln] at hQ9 ⊢
        exact ⟨_, _, _, _, rfl, ⟨_, _, _, _, rfl, hH9.rdL.weak (fun k hk => hk.elim (fun h => ⟨by have := (hDs k h).2.1; omega, by have := (hDs k h).1; omega⟩) fun h => ⟨by have := (hoH k h).1; omega, hH9.lt h⟩), hQ9.rdL.weak (fun k hk => hk.elim (fun h => ⟨by have := (hDs k h).2.1; omega, by have := (hDs k h).1; omega⟩) fun h => ⟨by rw [hln] at h; have := hob9 k h; omega, hQ9.lt h⟩)⟩, (((qb.trans (hbc.mono qb.size)).grown hgd (qb.trans (hbc.mono qb.size)).size (fun k e => by have := hob.2 k e; omega)).grown hge (by omega) (fun k e => by injection e with e; omega)).grown hgf (by omega) (fun k e => by injection e with e; omega)⟩
      | false =>
        have Hh := Lib.hid (hak.out.2 hbk)
        clear hbk hak
        have hh := held_any wb (aQ := aD) (nQ := Q.length) (cQ := cD) hxb hF1b (fun k hk => ⟨(hDs k hk).1, (hDs k hk).2.2.2.1⟩) (by omega)
        go_wp2_with fail
        refine hh.mono ?_
        rintro e wd ⟨a9, c9, rfl, hO9, hgd, ho9⟩
        have zd := hgd.size
        have hBd := hBb.other hgd (fun e => by have := hob.1 _ e; omega)
        have hob9 : ∀ g, Value.ownBlock (.slice a9 (heldA y H).length c9) = some g → W0.heap.size ≤ g ∧ g ≠ W1.heap.size ∧ g < wd.heap.size := fun g hg => ⟨by
          rcases ho9 with e | ⟨k9, e, h9⟩
          · rw [e] at hg; have := hob.1 g hg; omega
          · rw [e] at hg; injection hg with hg; omega, by
          rcases ho9 with e | ⟨k9, e, h9⟩
          · rw [e] at hg; have := hob.1 g hg; omega
          · rw [e] at hg; injection hg with hg; omega, hO9.lt hg⟩
        obtain ⟨L, eL⟩ : ∃ L, L = heldA y H := ⟨_, rfl⟩
        rw [← eL] at hO9 hob9 Hh ⊢
        clear hh e0 e1 e2 e3 e4 e5 e6 e7 e8 f0 f1 ho9 eL
        go_wp2_with (first
          | (refine wpList_boxSet (j := 0) rfl rfl rfl (by kernel_rfl) rfl rfl rfl rfl hBd (by simp) ?_; intro we hge hBe; have g0 := hBe.cell (i := 0) rfl; have g1 := hBe.cell (i := 1) rfl)
          | (refine wpList_boxStore (us := [.slice a9 L.length c9, .slice aD Q.length cD]) (by kernel_rfl) rfl rfl rfl rfl rfl rfl ((bzb.other hgd (fun e => by have := hob.1 _ e; omega)).other hge (fun e => by injection e with e; omega)) rfl ?_; intro wf hgf hBf)
          | fail)
        have ze := hge.size
        have zf := hgf.size
        have hkp : ∀ k, k < wb.heap.size → Value.ownBlock (.slice (some ⟨gH, 0, none⟩) H.length cC) ≠ some k → k ≠ W1.heap.size → W0.heap.size ≤ k → wf.heap[k]? = wb.heap[k]? := fun k h1 h2 h3 h4 => ((hgf.block k (by omega) fun e => by injection e with e; omega).trans (hge.block k (by omega) fun e => by injection e with e; exact h3 e)).trans (hgd.block k h1 fun e => h2 e.symm)
        have hkD : ∀ k, ((fun k => D k ∨ (W4.heap.size ≤ k ∧ k < V4.heap.size ∧ k ≠ bA))) k → wf.heap[k]? = wb.heap[k]? := fun k hk => hkp k (hDs k hk).1 (hDs k hk).2.2.2.1 (hDs k hk).2.2.1 (hDs k hk).2.1
        have hQ9 := hF2b.kept (w' := wf) (fun g hg => hkp g (hF2b.lt hg) (fun e => (hoH g e).2 hg) (by have := hob.2 g hg; omega) (hoQ g hg)) hkD
        have hH9 := (hO9.kept (w' := wf) (fun g hg => (hgf.block g (by have := hob9 g hg; omega) fun e => by injection e with e; have := hob9 g hg; omega).trans (hge.block g (hob9 g hg).2.2 fun e => by injection e with e; exact (hob9 g hg).2.1 e)) (fun k hk => (hgf.block k (by have := (hDs k hk).1; omega) fun e => by injection e with e; have := (hDs k hk).2.1; omega).trans (hge.block k (by have := (hDs k hk).1; omega) fun e => by injection e with e; exact (hDs k hk).2.2.1 e)))
        have g0 := hBf.cell (i := 0) rfl
        have g1 := hBf.cell (i := 1) rfl
        obtain ⟨fs, hu, _⟩ := lsS.hu
        refine bodyPost_ret (v := .tuple #[.agg #[.slice a9 L.length c9, .slice aD Q.length cD], .int .i64 0]) (by simp [results, Tryd.results30, go_sem, loadVar, isAgg, run_underlying hu, run_sizeOf' lsS.hs, loadCellsFrom, Addr.add, g0, g1]) rfl ?_
        rw [Hh.out]
        have zq := q.size
        exact ⟨_, _, _, _, rfl, ⟨_, _, _, _, rfl, hH9.rdL.weak (fun k hk => hk.elim (fun h => ⟨by have := (hDs k h).2.1; omega, by have := (hDs k h).1; omega⟩) fun h => ⟨by have := hob9 k h; omega, hH9.lt h⟩), hQ9.rdL.weak (fun k hk => hk.elim (fun h => ⟨by have := (hDs k h).2.1; omega, by have := (hDs k h).1; omega⟩) fun h => ⟨by have := hoQ k h; omega, hQ9.lt h⟩)⟩, ((qb.grown hgd qb.size (fun k e => by have := hob.1 k e; omega)).grown hge (by omega) (fun k e => by injection e with e; omega)).grown hgf (by omega) (fun k e => by injection e with e; omega)⟩
end Go.Proofs.YtpdnehgboafgpaaDoor
namespace Go.Proofs.YtpdnehgboafgpaaDoor
open Go.RowKit Go.Shelf
def DrJ (W : World) (B bR : Nat) (vc : Value) (e9 : Option Addr) (cc : List Int) (us : List Value) : List Value → World → Prop
  | [], V => Below W.heap.size W V
  | [v], V => W.grownBy V vc.ownBlock ∧ ∃ c', v = .slice e9 (riseL cc).length c' ∧ OwnL Elt.int 3 B B V (.slice e9 (riseL cc).length c') (riseL cc)
  | [v, _], V => Trd (fun k => k = bR ∨ vc.ownBlock = some k) W V ∧ ∃ c', v = .slice e9 (riseL cc).length c' ∧ OwnL Elt.int 3 B B V (.slice e9 (riseL cc).length c') (riseL cc) ∧ BoxN V bR 24 us
  | v :: _ :: u :: _, V => u = v ∧ Trd (fun k => k = bR ∨ vc.ownBlock = some k) W V ∧ ∃ c', v = .slice e9 (riseL cc).length c' ∧ OwnL Elt.int 3 B B V (.slice e9 (riseL cc).length c') (riseL cc) ∧ BoxN V bR 24 us
section
variable {W : World} {B bR : Nat} {vc : Value} {e9 : Option Addr} {cc : List Int} {us : List Value}
theorem DrJ.below : ∀ (l : List Value) (V V' : World), DrJ W B bR vc e9 cc us l V → Below V.heap.size V V' → DrJ W B bR vc e9 cc us l V'
  | [], _, _, h, hb => Below.trans h (hb.mono (Below.size h))
  | [_], _, _, ⟨h, c, e, h1⟩, hb => ⟨grownT h (grownB hb _), c, e, h1.below hb⟩
  | [_, _], _, _, ⟨h, c, e, h1, h2⟩, hb => ⟨h.trans (Trd.of hb) (fun _ _ h => h), c, e, h1.below hb, h2.below hb h2.lt⟩
  | _ :: _ :: _ :: _, _, _, ⟨e0, h, c, e, h1, h2⟩, hb => ⟨e0, h.trans (Trd.of hb) (fun _ _ h => h), c, e, h1.below hb, h2.below hb h2.lt⟩
theorem DrJ.low : ∀ {l : List Value} {V : World}, DrJ W B bR vc e9 cc us l V → Trd (fun k => k = bR ∨ vc.ownBlock = some k) W V
  | [], _, h => Trd.of h
  | [_], _, h => Trd.ofGrown h.1 fun _ h => .inr h
  | [_, _], _, h => h.1
  | _ :: _ :: _ :: _, _, h => h.2.1
end
theorem tOwnsA {o : Int} (ho : W64 o) : TellsA 43 #[.agg #[.int .i64 o, .bool false, .int .i64 0, .slice none 0 0, .slice none 0 0, .bool false, .int .i64 0]] #[] (fun y => decide (y.owner = o)) := fun W _ _ _ hy =>
  owns_any W (x := ⟨o, false, ⟨0, [], [], false⟩, 0⟩) (S := fun _ => True) ⟨none, 0, none, 0, rfl, RdS.nil _ _, RdS.nil _ _, ho, by unfold W64; simp, by unfold W64; simp⟩ hy
theorem goD_len : ∀ (l H Q : List Lk) (c : List Int), (goD H Q l c).2.2.length ≤ c.length + l.length
  | [], _, _, _ => by simp [goD]
  | x :: l, H, Q, c => by
    rw [goD_cons]
    split
    · have := goD_len l H (Q ++ [x]) c
      simp only [List.length_cons]; omega
    · have := goD_len l (heldA x H) Q (c ++ [x.owner])
      simp only [List.length_cons, List.length_append, List.length_nil] at this ⊢; omega
def DropEnd (w : World) (r : List Lk × List Lk × List Int) (e : Ending) (w' : World) : Prop :=
  ∃ a c a2 c2 a3 c3, e = .returned (.tuple #[.agg #[.slice a r.1.length c, .slice a2 r.2.1.length c2], .slice a3 (riseL r.2.2).length c3]) ∧ RdLs (fun k => w.heap.size ≤ k ∧ k < w'.heap.size) w' (.agg #[.slice a r.1.length c, .slice a2 r.2.1.length c2]) r.1 r.2.1 ∧
    OwnL Elt.int 3 w.heap.size w.heap.size w' (.slice a3 (riseL r.2.2).length c3) (riseL r.2.2) ∧ Below w.heap.size w w'
theorem own_len (a : Option Addr) (n m c : Nat) : Value.ownBlock (.slice a n c) = Value.ownBlock (.slice a m c) := by cases a <;> rfl
theorem rise_nil : riseL [] = [] := by simp [riseL, Lib.compact, Lib.compactUpTo]
theorem less_len (o : Int) (l : List Lk) : (lessL o l).length ≤ l.length := List.length_filter_le _ _
set_option maxRecDepth 100000 in
set_option maxHeartbeats 8000000 in
theorem lDrop_any (w : World) (hT : TabAt w) {S : Nat → Prop} {v : Value} {H Q : List Lk} {o : Int} (h : RdLs S w v H Q) (hsH : smK H) (hsQ : smK Q) (hnH : H.length ≤ 400000) (hnQ : Q.length ≤ 400000) :
    Calls Tryd.prog 29 #[v, .int .i64 o] w (DropEnd w (dropC H Q o)) := by
  have hfull := h
  obtain ⟨aH, cH, aL, cL, rfl, hH, hQ⟩ := h
  clear hH hQ
  obtain ⟨W0, hW, q, bn, bz, hsz⟩ := boxes2 w 24 24 [.slice aH H.length cH, .slice aL Q.length cL] [.slice none 0 0, .slice none 0 0]
  go_enter Tryd.func29, Tryd.ntmps29
  go_upto_region 1 with (fail)
  rw [show (w.alloc (.cells #[.slice aH H.length cH, .slice aL Q.length cL] 24)).alloc (.cells #[.slice none 0 0, .slice none 0 0] 24) = W0 from hW.symm]
  clear hW hsz
  have zW := bz.lt
  have b0 := bn.cell (i := 0) rfl
  have b1 := bn.cell (i := 1) rfl
  have hcp := lCopied_any W0 (hfull.below q) hsH hsQ
  go_upto_region 2 with (first | (go_at_call 54; refine hcp.mono ?_; rintro e W1 ⟨aC, cC, aD, cD, rfl, hK, hb1⟩) | (refine wpList_boxNew (vs := [.slice none 0 0, .slice none 0 0]) (by kernel_rfl) rfl rfl ?_; intro wa hba hBa) | (refine wpList_boxStore (us := [.slice aC H.length cC, .slice aD Q.length cD]) (by kernel_rfl) rfl rfl rfl rfl rfl rfl hBa rfl ?_; intro w2 hg2 hB2) | fail)
  go_simp
  have hb2 : Below W1.heap.size W1 w2 := hba.grown hg2 hba.size fun k hk => by injection hk with hk; omega
  have z1 := hb1.size
  have zO := hB2.lt
  have q2 := q.trans ((hb1.trans (hb2.mono hb1.size)).mono q.size)
  have hK5 : ∀ w9, Below w2.heap.size w2 w9 → ∃ D : Nat → Prop, OwnF Elt.lk 29 D w9 (.slice aC H.length cC) H ∧ OwnF Elt.lk 29 D w9 (.slice aD Q.length cD) Q ∧ (∀ k, D k → W0.heap.size ≤ k ∧ k < w9.heap.size ∧ Value.ownBlock (.slice aC H.length cC) ≠ some k ∧ Value.ownBlock (.slice aD Q.length cD) ≠ some k) ∧ (∀ k, Value.ownBlock (.slice aC H.length cC) = some k → W0.heap.size ≤ k ∧ Value.ownBlock (.slice aD Q.length cD) ≠ some k) ∧ (∀ k, Value.ownBlock (.slice aD Q.length cD) = some k → W0.heap.size ≤ k) ∧ ∀ k, D k → k ≠ W1.heap.size := by
    intro w9 hb9
    obtain ⟨D, h1, h2, h3, h4, h5⟩ := hK
    have hb := hb2.trans (hb9.mono hb2.size)
    exact ⟨D, h1.below hb fun k hk => (h3 k hk).2.1, h2.below hb fun k hk => (h3 k hk).2.1, fun k hk => ⟨(h3 k hk).1, Nat.lt_of_lt_of_le (h3 k hk).2.1 hb.size, (h3 k hk).2.2⟩, h4, h5, fun k hk => by have := (h3 k hk).2.1; omega⟩
  have hK2 : OwnKs W0.heap.size w2 aC aD cC cD H Q := hK.below hb2
  have bn2 := (bn.below hb1 bn.lt).below hb2 (by have := bn.lt; omega)
  have bz2 := (bz.below hb1 bz.lt).below hb2 (by omega)
  clear hba hBa hg2 hb2 hb1 hcp b0 b1 bn bz
  have hob : (∀ k, Value.ownBlock (.slice aC H.length cC) = some k → W0.heap.size ≤ k ∧ k < W1.heap.size) ∧ ∀ k, Value.ownBlock (.slice aD Q.length cD) = some k → W0.heap.size ≤ k ∧ k < W1.heap.size := by
    obtain ⟨D, h1, h2, h3, h4, h5⟩ := hK
    exact ⟨fun k hk => ⟨(h4 k hk).1, h1.lt hk⟩, fun k hk => ⟨h5 k hk, h2.lt hk⟩⟩
  clear hK
  by_cases ho0 : 0 ≤ o
  case neg =>
    have da : decide (o < 0) = true := decide_eq_true (by omega)
    have Hh := Lib.hid (show dropC H Q o = (H, Q, []) from if_neg fun h => ho0 h.1)
    clear ho0
    have d0 := hB2.cell (i := 0) rfl
    have d1 := hB2.cell (i := 1) rfl
    go_wp2_with (first | (refine wpList_boxStore (us := [.slice aC H.length cC, .slice aD Q.length cD]) (by kernel_rfl) rfl rfl rfl rfl rfl rfl bz2 rfl ?_; intro wd hgd hBd) | fail)
    have g0 := hBd.cell (i := 0) rfl
    have g1 := hBd.cell (i := 1) rfl
    obtain ⟨fs, hu, _⟩ := lsS.hu
    refine bodyPost_ret (v := .tuple #[.agg #[.slice aC H.length cC, .slice aD Q.length cD], .slice none 0 0]) (by simp [results, Tryd.results29, go_sem, loadVar, isAgg, run_underlying hu, run_sizeOf' lsS.hs, loadCellsFrom, Addr.add, g0, g1]) rfl ?_
    rw [Hh.out]
    have hK9 := hK2.grown hgd (by omega)
    have zd := hgd.size
    have zq2 := q2.size
    exact ⟨aC, cC, aD, cD, none, 0, by rw [rise_nil]; rfl, hK9.rd.weak (fun k hk => ⟨by omega, hk.2⟩), by rw [rise_nil]; exact OwnL.nil _ _ _ _ _, q2.grown hgd q2.size (fun k e => by injection e with e; omega)⟩
  by_cases ho4 : o < 4
  case neg =>
    have da : decide (o < 0) = false := decide_eq_false (by omega)
    have db : decide (4 ≤ o) = true := decide_eq_true (by omega)
    have Hh := Lib.hid (show dropC H Q o = (H, Q, []) from if_neg fun h => ho4 h.2.1)
    clear ho0 ho4
    have d0 := hB2.cell (i := 0) rfl
    have d1 := hB2.cell (i := 1) rfl
    go_wp2_with (first | (refine wpList_boxStore (us := [.slice aC H.length cC, .slice aD Q.length cD]) (by kernel_rfl) rfl rfl rfl rfl rfl rfl bz2 rfl ?_; intro wd hgd hBd) | fail)
    have g0 := hBd.cell (i := 0) rfl
    have g1 := hBd.cell (i := 1) rfl
    obtain ⟨fs, hu, _⟩ := lsS.hu
    refine bodyPost_ret (v := .tuple #[.agg #[.slice aC H.length cC, .slice aD Q.length cD], .slice none 0 0]) (by simp [results, Tryd.results29, go_sem, loadVar, isAgg, run_underlying hu, run_sizeOf' lsS.hs, loadCellsFrom, Addr.add, g0, g1]) rfl ?_
    rw [Hh.out]
    have hK9 := hK2.grown hgd (by omega)
    have zd := hgd.size
    have zq2 := q2.size
    exact ⟨aC, cC, aD, cD, none, 0, by rw [rise_nil]; rfl, hK9.rd.weak (fun k hk => ⟨by omega, hk.2⟩), by rw [rise_nil]; exact OwnL.nil _ _ _ _ _, q2.grown hgd q2.size (fun k e => by injection e with e; omega)⟩
  have da : decide (o < 0) = false := decide_eq_false (by omega)
  have db : decide (4 ≤ o) = false := decide_eq_false (by omega)
  have ho64 : W64 o := ⟨by omega, by omega⟩
  have hor := Lib.hid (And.intro ho0 ho4)
  clear ho0 ho4
  have hCk := lCheck_any w2 (hT.below q2) (hfull.below q2) (by omega) (by omega)
  have b0 := bn2.cell (i := 0) rfl
  have b1 := bn2.cell (i := 1) rfl
  go_wp2_with fail
  refine hCk.mono ?_
  rintro e w3 ⟨rfl, hb⟩
  have z3 := hb.size
  have q3 := q2.trans (hb.mono q2.size)
  have hK3 := hK2.below hb
  have hb23 := hb
  have bz3 := bz2.below hb bz2.lt
  have hB3 := hB2.below hb hB2.lt
  clear b0 b1 hCk hb hK2 bz2 hB2 bn2
  cases hok : decide (okLk H Q) with
  | false =>
    have Hh := Lib.hid (show dropC H Q o = (H, Q, []) from if_neg fun h => of_decide_eq_false hok h.2.2)
    clear hok
    have d0 := hB3.cell (i := 0) rfl
    have d1 := hB3.cell (i := 1) rfl
    go_wp2_with (first | (refine wpList_boxStore (us := [.slice aC H.length cC, .slice aD Q.length cD]) (by kernel_rfl) rfl rfl rfl rfl rfl rfl bz3 rfl ?_; intro wd hgd hBd) | fail)
    have g0 := hBd.cell (i := 0) rfl
    have g1 := hBd.cell (i := 1) rfl
    obtain ⟨fs, hu, _⟩ := lsS.hu
    refine bodyPost_ret (v := .tuple #[.agg #[.slice aC H.length cC, .slice aD Q.length cD], .slice none 0 0]) (by simp [results, Tryd.results29, go_sem, loadVar, isAgg, run_underlying hu, run_sizeOf' lsS.hs, loadCellsFrom, Addr.add, g0, g1]) rfl ?_
    rw [Hh.out]
    have hK9 := hK3.grown hgd (by omega)
    have zd := hgd.size
    have zq3 := q3.size
    exact ⟨aC, cC, aD, cD, none, 0, by rw [rise_nil]; rfl, hK9.rd.weak (fun k hk => ⟨by omega, hk.2⟩), by rw [rise_nil]; exact OwnL.nil _ _ _ _ _, q3.grown hgd q3.size (fun k e => by injection e with e; omega)⟩
  | true =>
  have Hh := Lib.hid (show dropC H Q o = goD (lessL o H) [] (lessL o Q) [] from if_pos ⟨hor.out.1, hor.out.2, of_decide_eq_true hok⟩)
  clear hok hor
  go_upto_region 5 with (first | (refine wpList_boxNew (vs := [.int .i64 0, .bool false, .int .i64 0, .slice none 0 0, .slice none 0 0, .bool false, .int .i64 0]) (by kernel_rfl) rfl rfl ?_; intro wa hba hBa) | (refine wpList_boxStore (us := [.int .i64 o, .bool false, .int .i64 0, .slice none 0 0, .slice none 0 0, .bool false, .int .i64 0]) (by kernel_rfl) rfl rfl rfl rfl rfl rfl hBa rfl ?_; intro w4 hg4 hI4) | fail)
  go_simp
  have hb4 : Below w3.heap.size w3 w4 := hba.grown hg4 hba.size fun k hk => by injection hk with hk; omega
  have z4 := hb4.size
  have zI := hI4.lt
  have q4 := q3.trans (hb4.mono q3.size)
  replace hK5 := hK5 w4 (hb23.trans (hb4.mono hb23.size))
  have bz4 := bz3.below hb4 bz3.lt
  have hB4 := hB3.below hb4 hB3.lt
  clear hba hBa hg4 hb4 hK3 bz3 hB3
  obtain ⟨D, hF1, hF2, hD, hoH, hoQ, hDw⟩ := hK5
  have c0 := hB4.cell (i := 0) rfl
  have i0 := hI4.cell (i := 0) rfl
  have i1 := hI4.cell (i := 1) rfl
  have i2 := hI4.cell (i := 2) rfl
  have i3 := hI4.cell (i := 3) rfl
  have i4 := hI4.cell (i := 4) rfl
  have i5 := hI4.cell (i := 5) rfl
  have i6 := hI4.cell (i := 6) rfl
  have hdl := lDelete_any w4 hF1 (fun k hk => ⟨(hD k hk).2.1, (hD k hk).2.2.1⟩) (by omega) _ _ #[] eOwns _ (tOwnsA ho64)
  go_wp2_with fail
  refine hdl.mono ?_
  rintro e w5 ⟨k5, rfl, hF5, hg5⟩
  obtain rfl : k5 = (notK (fun y => decide (y.owner = o)) H).length := hF5.len
  have z5 := hg5.size
  have hobH := hob.1
  have hobQ := hob.2
  have hDk5 : ∀ k, D k → w5.heap[k]? = w4.heap[k]? := fun k hk => hg5.block k (hD k hk).2.1 fun e => (hD k hk).2.2.1 e.symm
  have hB5 := hB4.other hg5 (fun e => by have := hobH _ e; omega)
  have bz5 := bz4.other hg5 (fun e => by have := hobH _ e; omega)
  have hI5 := hI4.other hg5 (fun e => by have := hobH _ e; omega)
  have q5 := q4.grown hg5 q4.size (fun k e => by have := hobH k e; omega)
  have hF25 := hF2.kept (w' := w5) (fun g hg => hg5.block g (hF2.lt hg) fun e => (hoH g e.symm).2 hg) hDk5
  clear c0 i0 i1 i2 i3 i4 i5 i6 hdl hB4 bz4 hI4
  obtain ⟨L, eL⟩ : ∃ L, L = notK (fun y => decide (y.owner = o)) H := ⟨_, rfl⟩
  have hLl : L.length ≤ H.length := by rw [eL]; exact List.length_filter_le _ _
  replace Hh := Lib.hid (show dropC H Q o = goD L [] (lessL o Q) [] by rw [Hh.out, eL]; rfl)
  rw [← eL] at hF5 ⊢
  clear eL
  have eoL := own_len aC L.length H.length cC
  go_upto_region 6 with (first | (refine wpList_boxSet (j := 0) rfl rfl rfl (by kernel_rfl) rfl rfl rfl rfl hB5 (by simp) ?_; intro w6 hg6 hB6) | fail)
  go_simp
  have z6 := hg6.size
  have hk6 : ∀ k, k < w5.heap.size → k ≠ W1.heap.size → w6.heap[k]? = w5.heap[k]? := fun k h1 h2 => hg6.block k h1 fun e => by injection e with e; exact h2 e
  have hDo : ∀ k, D k → k ≠ W1.heap.size := hDw
  have hDk6 : ∀ k, D k → w6.heap[k]? = w5.heap[k]? := fun k hk => hk6 k (by have := (hD k hk).2.1; omega) (hDo k hk)
  have hF6 := hF5.kept (w' := w6) (fun g hg => hk6 g (hF5.lt hg) (by have := hobH g (eoL ▸ hg); omega)) hDk6
  have hF26 := hF25.kept (w' := w6) (fun g hg => hk6 g (hF25.lt hg) (by have := hobQ g hg; omega)) hDk6
  have bz6 := bz5.other hg6 (fun e => by injection e with e; omega)
  have hI6 := hI5.other hg6 (fun e => by injection e with e; omega)
  have q6 := q5.grown hg6 q5.size (fun k e => by injection e with e; omega)
  replace hB6 : BoxN w6 W1.heap.size 24 [.slice aC L.length cC, .slice aD Q.length cD] := hB6
  clear hF5 hF25 bz5 hI5 hB5 hk6 hDk6
  have c1 := hB6.cell (i := 1) rfl
  have i0 := hI6.cell (i := 0) rfl
  have i1 := hI6.cell (i := 1) rfl
  have i2 := hI6.cell (i := 2) rfl
  have i3 := hI6.cell (i := 3) rfl
  have i4 := hI6.cell (i := 4) rfl
  have i5 := hI6.cell (i := 5) rfl
  have i6 := hI6.cell (i := 6) rfl
  have hdl := lDelete_any w6 hF26 (fun k hk => ⟨by have := (hD k hk).2.1; omega, (hD k hk).2.2.2⟩) (by omega) _ _ #[] eOwns _ (tOwnsA ho64)
  go_wp2_with fail
  refine hdl.mono ?_
  rintro e w7 ⟨k7, rfl, hF7, hg7⟩
  obtain rfl : k7 = (notK (fun y => decide (y.owner = o)) Q).length := hF7.len
  have z7 := hg7.size
  have hDk7 : ∀ k, D k → w7.heap[k]? = w6.heap[k]? := fun k hk => hg7.block k (by have := (hD k hk).2.1; omega) fun e => (hD k hk).2.2.2 e.symm
  have hB7 := hB6.other hg7 (fun e => by have := hobQ _ e; omega)
  have bz7 := bz6.other hg7 (fun e => by have := hobQ _ e; omega)
  have q7 := q6.grown hg7 q6.size (fun k e => by have := hobQ k e; omega)
  have hF17 := hF6.kept (w' := w7) (fun g hg => hg7.block g (hF6.lt hg) fun e => (hoH g (eoL ▸ hg)).2 e.symm) hDk7
  clear c1 i0 i1 i2 i3 i4 i5 i6 hdl hB6 bz6 hI6 hF6 hF26 hDk7
  obtain ⟨M, eM⟩ : ∃ M, M = notK (fun y => decide (y.owner = o)) Q := ⟨_, rfl⟩
  have hMl : M.length ≤ Q.length := by rw [eM]; exact List.length_filter_le _ _
  replace Hh := Lib.hid (show dropC H Q o = goD L [] M [] by rw [Hh.out, eM]; rfl)
  rw [← eM] at hF7 ⊢
  clear eM
  have eoM := own_len aD M.length Q.length cD
  go_upto_region 7 with (first | (refine wpList_boxSet (j := 1) rfl rfl rfl (by kernel_rfl) rfl rfl rfl rfl hB7 (by simp) ?_; intro w8 hg8 hB8) | fail)
  go_simp
  have z8 := hg8.size
  have hk8 : ∀ k, k < w7.heap.size → k ≠ W1.heap.size → w8.heap[k]? = w7.heap[k]? := fun k h1 h2 => hg8.block k h1 fun e => by injection e with e; exact h2 e
  have hDk8 : ∀ k, D k → w8.heap[k]? = w7.heap[k]? := fun k hk => hk8 k (by have := (hD k hk).2.1; omega) (hDo k hk)
  have hF18 := hF17.kept (w' := w8) (fun g hg => hk8 g (hF17.lt hg) (by have := hobH g (eoL ▸ hg); omega)) hDk8
  have hF28 := hF7.kept (w' := w8) (fun g hg => hk8 g (hF7.lt hg) (by have := hobQ g (eoM ▸ hg); omega)) hDk8
  have bz8 := bz7.other hg8 (fun e => by injection e with e; omega)
  have q8 := q7.grown hg8 q7.size (fun k e => by injection e with e; omega)
  replace hB8 : BoxN w8 W1.heap.size 24 [.slice aC L.length cC, .slice aD M.length cD] := hB8
  clear hF17 hF7 bz7 hB7 hk8 hDk8
  go_upto_region 8 with (first | (refine wpList_boxNew1 (u := .slice none 0 0) (by kernel_rfl) rfl rfl rfl ?_; intro w9 hb9 hC9) | fail)
  go_simp
  have z9 := hb9.size
  have zC := hC9.lt
  have hD9 : ∀ k, D k → k < w8.heap.size := fun k hk => by have := (hD k hk).2.1; omega
  have hF19 := hF18.below hb9 hD9
  have hF29 := hF28.below hb9 hD9
  have bz9 := bz8.below hb9 bz8.lt
  have hB9 := hB8.below hb9 hB8.lt
  have q9 := q8.trans (hb9.mono q8.size)
  clear hF18 hF28 bz8 hB8 hb9
  have h0C : 0 < w.heap.size := by have := cell_lt (hT 1 1 rfl rfl); omega
  have z00 := q.size
  have htk := take_any w9 (hT.below q9) hF19 hF29 hC9 (by omega) (fun k hk => ⟨by have := hD9 k hk; omega, fun e => (hD k hk).2.2.1 (eoL ▸ e), fun e => (hD k hk).2.2.2 (eoM ▸ e), by have := hD9 k hk; omega⟩) (fun k hk => ⟨fun e => (hoH k (eoL ▸ hk)).2 (eoM ▸ e), by have := hobH k (eoL ▸ hk); omega, by have := hobH k (eoL ▸ hk); omega⟩) (fun e => by have := hobQ _ (eoM ▸ e); omega) (by omega)
  have c0 := hB9.cell (i := 0) rfl
  have c1 := hB9.cell (i := 1) rfl
  go_wp2_with fail
  refine htk.mono ?_
  rintro e wt ⟨a9, c9, b9, d9, e9, f9, rfl, hH9, hQ9, hCt, hNt, hoH9, hoQ9, hoN9, ht⟩
  have hnl : (goD L [] M []).2.2.length ≤ 1000000 := by have := goD_len M L [] []; simp only [List.length_nil] at this; omega
  obtain ⟨r, er⟩ : ∃ r, r = goD L [] M [] := ⟨_, rfl⟩
  replace Hh := Lib.hid (show dropC H Q o = r by rw [Hh.out, er])
  rw [← er] at hH9 hQ9 hCt hNt hoH9 hoQ9 hoN9 hnl ⊢
  clear er c0 c1 htk hF19 hF29 hC9
  have zt := ht.size
  have hfp9 : ∀ k, (k = w8.heap.size ∨ Value.ownBlock (.slice aC L.length cC) = some k) → W0.heap.size ≤ k ∧ k ≠ W1.heap.size ∧ k < w9.heap.size := fun k hk => hk.elim (fun e => by omega) fun e => by have := hobH k (eoL ▸ e); omega
  have hBt := hB9.trd ht (fun h => (hfp9 _ h).2.1 rfl)
  have bzt := bz9.trd ht (fun h => by have := (hfp9 _ h).1; omega)
  have qt : Below w.heap.size w wt := q9.trans (ht.below q9.size fun k hk h => by have := (hfp9 k h).1; omega)
  have hHg : ∀ g, Value.ownBlock (.slice a9 r.1.length c9) = some g → g ≠ W1.heap.size ∧ W0.heap.size ≤ g := fun g hg => ((hoH9 g hg).1.elim (fun h => ⟨(hfp9 g h).2.1, (hfp9 g h).1⟩) fun h => ⟨by omega, by omega⟩)
  have hQg : ∀ g, Value.ownBlock (.slice b9 r.2.1.length d9) = some g → g ≠ W1.heap.size ∧ W0.heap.size ≤ g := fun g hg => by have := (hoQ9 g hg).1; omega
  clear hB9 bz9
  go_upto_region 9 with (first | (refine wpList_boxStore (us := [.slice a9 r.1.length c9, .slice b9 r.2.1.length d9]) (by kernel_rfl) rfl rfl rfl rfl rfl rfl hBt rfl ?_; intro wu hgu hO9) | fail)
  go_simp
  have zu := hgu.size
  have hku : ∀ k, k < wt.heap.size → k ≠ W1.heap.size → wu.heap[k]? = wt.heap[k]? := fun k h1 h2 => hgu.block k h1 fun e => by injection e with e; exact h2 e
  have hDu : ∀ k, D k → wu.heap[k]? = wt.heap[k]? := fun k hk => hku k (by have := hD9 k hk; omega) (hDo k hk)
  have hHu := hH9.kept (w' := wu) (fun g hg => hku g (hH9.lt hg) (hHg g hg).1) hDu
  have hQu := hQ9.kept (w' := wu) (fun g hg => hku g (hQ9.lt hg) (hQg g hg).1) hDu
  have hC9 := hCt.other hgu (fun e => by injection e with e; omega)
  have hR9 := bzt.other hgu (fun e => by injection e with e; omega)
  have hNl := fun k hk => hNt.block_lt k hk
  have hN9 := hNt.numK (w' := wu) (fun g hg => hku g (hNl g hg).2 (by have := (hNl g hg).1; omega))
  have qu := qt.grown hgu qt.size (fun k e => by injection e with e; omega)
  have hneOR : W1.heap.size = w.heap.size + 1 → False := fun h => by omega
  have hneO : Value.ownBlock (.slice e9 r.2.2.length f9) = some W1.heap.size → False := fun h => by have := (hNl _ h).1; omega
  have hneCR : w8.heap.size = w.heap.size + 1 → False := fun h => by omega
  have hneC : Value.ownBlock (.slice e9 r.2.2.length f9) = some w8.heap.size → False := fun h => by have := (hNl _ h).1; omega
  have hneR : Value.ownBlock (.slice e9 r.2.2.length f9) ≠ some (w.heap.size + 1) := fun h => by have := (hNl _ h).1; omega
  have eR : ∀ args w, (callFunc 57 args).run Tryd.prog w = .ok (.enter 57 args) w := enters_of Tryd.func57 (by kernel_rfl) rfl
  clear hH9 hQ9 hCt hNt hBt bzt hgu hku hDu ht hfp9
  refine wp_region_lnl (K := fun A B => Trd (fun k => k = w.heap.size + 1 ∨ Value.ownBlock (.slice e9 r.2.2.length f9) = some k) A B) (by kernel_rfl) (by kernel_rfl) [2, 3, 4] (by kernel_rfl) [lEq (.agg #[.slice a9 r.1.length c9, .slice b9 r.2.1.length d9]), lEq (.slice e9 r.2.2.length f9), lAny, lAny, lAny] (DrJ wu w9.heap.size (w.heap.size + 1) (.slice e9 r.2.2.length f9) e9 r.2.2 [.slice a9 r.1.length c9, .slice b9 r.2.1.length d9]) DrJ.below (show Below wu.heap.size wu wu from Below.refl _ _)
    ⟨?o0, ?o1, ?o2, ?o3, ?o4, trivial⟩ ?fin
  case o0 =>
    refine LnOp.side rfl (by kernel_rfl) (fun A va w' k hF hT hk hJ hb hu hp hd => ?_)
    have e1 : A.eval (.tmp 6) = .pointer (some ⟨W1.heap.size, 0, none⟩) := hF 6 rfl
    have hX2 := hO9.trd (DrJ.low hJ) (fun h => h.elim hneOR hneO)
    exact wp_load2 lsS rfl e1 (hX2.cell (i := 0) rfl) (hX2.cell (i := 1) rfl) ⟨_, rfl, rfl, Below.refl _ _⟩
  case o1 =>
    refine LnOp.side rfl (by kernel_rfl) (fun A va w' k hF hT hk hJ hb hu hp hd => ?_)
    have e1 : A.eval (.tmp 8) = .pointer (some ⟨w8.heap.size, 0, none⟩) := hF 8 rfl
    have hX2 := hC9.trd (DrJ.low hJ) (fun h => h.elim hneCR hneC)
    exact wp_ld_slice (e := 3) rfl e1 (by kernel_rfl) (hX2.cell (i := 0) rfl) ⟨_, rfl, rfl, Below.refl _ _⟩
  case o2 =>
    refine LnOp.line 0 rfl rfl (fun A va w' hF hT hJ hu hd => ?_)
    have e1 : A.eval (.tmp 42) = .slice e9 r.2.2.length f9 := (hT 42 1 (by simp) rfl).trans (hd ⟨1, .data⟩ (by simp) rfl rfl)
    have hJ0 : Below wu.heap.size wu w' := hJ
    refine wp_callFn rfl eR (by simp only [List.map_toArray, List.map_cons, List.map_nil, e1]) ((rising_any w' (hN9.below hJ0) hnl).mono ?_)
    rintro e w2 ⟨c', rfl, hO2, hg2⟩
    exact ⟨_, rfl, _, rfl, ⟨grownT (grownB hJ0 _) hg2, c', rfl, hO2⟩, Trd.ofGrown hg2 (fun k h => .inr h)⟩
  case o3 =>
    refine LnOp.line 1 rfl rfl (fun A va w' hF hT hJ hu hd => ?_)
    have e1 : A.eval (.tmp 4) = .pointer (some ⟨w.heap.size + 1, 0, none⟩) := hF 4 rfl
    have e2 : A.eval (.tmp 41) = .agg #[.slice a9 r.1.length c9, .slice b9 r.2.1.length d9] := (hT 41 0 (by simp) rfl).trans (hd ⟨0, .data⟩ (by simp) rfl rfl)
    obtain ⟨hJ0, c', ev, hO2⟩ := hJ
    refine wp_boxStore (vs := [.slice none 0 0, .slice none 0 0]) (us := [.slice a9 r.1.length c9, .slice b9 r.2.1.length d9]) (by kernel_rfl) rfl e1 e2 rfl (hR9.other hJ0 hneR) rfl (fun w2 hg hz => ⟨_, rfl, ⟨(Trd.ofGrown hJ0 (F := (fun k => k = w.heap.size + 1 ∨ Value.ownBlock (.slice e9 r.2.2.length f9) = some k)) (fun k h => .inr h)).trans (Trd.ofGrown hg (F := (fun k => k = w.heap.size + 1 ∨ Value.ownBlock (.slice e9 r.2.2.length f9) = some k)) (fun k h => by injection h with h; exact .inl h.symm)) (fun _ _ h => h), c', ev, hO2.numK (fun g hg2 => hg.block g (hO2.block_lt g hg2).2 (fun h => by injection h with h; have := (hO2.block_lt g hg2).1; omega)), hz⟩, Trd.ofGrown hg (fun k h => by injection h with h; exact .inl h.symm)⟩)
  case o4 =>
    refine LnOp.line 2 rfl rfl (fun A va w' hF hT hJ hu hd => ?_)
    have x1 : A.eval (.tmp 43) = va 2 := hT 43 2 (by simp) rfl
    exact BigFrame.wp_assign _ rfl ⟨_, rfl, ⟨x1, hJ⟩, Trd.refl _ _⟩
  case fin =>
    intro vs1 V9 hJ hG
    obtain ⟨e4, ht9, c', e2, hO2, hR2⟩ := hJ
    have g0 : vs1 0 = .agg #[.slice a9 r.1.length c9, .slice b9 r.2.1.length d9] := hG 0 (by decide) rfl
    have g1 : vs1 1 = .slice e9 r.2.2.length f9 := hG 1 (by decide) rfl
    clear hG
    simp only [putAll, e4, e2, g0, g1]
    clear e4 e2 g0 g1
    go_simp
    have z9' := ht9.size
    have r0 := hR2.cell (i := 0) rfl
    have r1 := hR2.cell (i := 1) rfl
    have hDf : ∀ k, D k → k < wu.heap.size ∧ ¬ (k = w.heap.size + 1 ∨ Value.ownBlock (.slice e9 r.2.2.length f9) = some k) := fun k hk => ⟨by have := hD9 k hk; omega, fun h => h.elim (fun e => by have := (hD k hk).1; omega) fun e => by have := (hNl k e).1; have := hD9 k hk; omega⟩
    have hH3 := hHu.trd ht9 (fun g hg h => h.elim (fun e => by have := (hHg g hg).2; omega) fun e => (hoN9 g e).1 hg) hDf
    have hQ3 := hQu.trd ht9 (fun g hg h => h.elim (fun e => by have := (hQg g hg).2; omega) fun e => (hoN9 g e).2 hg) hDf
    go_wp2_with fail
    obtain ⟨fs, hu, _⟩ := lsS.hu
    refine bodyPost_ret (v := .tuple #[.agg #[.slice a9 r.1.length c9, .slice b9 r.2.1.length d9], .slice e9 (riseL r.2.2).length c']) (by simp [results, Tryd.results29, go_sem, loadVar, isAgg, run_underlying hu, run_sizeOf' lsS.hs, loadCellsFrom, Addr.add, r0, r1]) rfl ?_
    rw [Hh.out]
    have z00 := q.size
    exact ⟨a9, c9, b9, d9, e9, c', rfl, ⟨a9, c9, b9, d9, rfl, hH3.rdL.weak (fun k hk => hk.elim (fun h => ⟨by have := (hD k h).1; omega, by have := hD9 k h; omega⟩) fun h => ⟨by have := (hHg k h).2; omega, hH3.lt h⟩), hQ3.rdL.weak (fun k hk => hk.elim (fun h => ⟨by have := (hD k h).1; omega, by have := hD9 k h; omega⟩) fun h => ⟨by have := (hQg k h).2; omega, hQ3.lt h⟩)⟩, hO2.to (by omega) (by omega), qu.trans (ht9.below qu.size fun k hk h => h.elim (fun e => by omega) fun e => by have := (hNl k e).1; omega)⟩
end Go.Proofs.YtpdnehgboafgpaaDoor
namespace Go.Proofs.YtpdnehgboafgpaaDoor
open Go.RowKit Go.Shelf
def shortK (l : List Lk) : Prop := l.length ≤ 60 ∧ ∀ x ∈ l, x.span.lo.length ≤ 100 ∧ x.span.hi.length ≤ 100
instance (l : List Lk) : Decidable (shortK l) := by unfold shortK; exact inferInstance
def fewK (H Q : List Lk) : Prop := shortK H ∧ shortK Q
instance (H Q : List Lk) : Decidable (fewK H Q) := by unfold fewK; exact inferInstance
set_option maxRecDepth 100000 in
set_option maxHeartbeats 4000000 in
theorem fewK_any (w : World) {S : Nat → Prop} {v : Value} {H Q : List Lk} (h : RdLs S w v H Q) :
    Calls Tryd.prog 9 #[v] w fun e w' => e = .returned (.bool (decide (fewK H Q))) ∧ Below w.heap.size w w' := by
  obtain ⟨aH, cH, aQ, cQ, rfl, hH, hQ⟩ := h
  obtain ⟨_, hc1, hm1⟩ := hH.len
  obtain ⟨_, hc2, hm2⟩ := hQ.len
  have hl1 : H.length ≤ 9223372036854775807 := by unfold maxLen at hm1; omega
  have hl2 : Q.length ≤ 9223372036854775807 := by unfold maxLen at hm2; omega
  obtain ⟨W, hW, q, Bw, hsz⟩ := spBox w 24 [.slice aH H.length cH, .slice aQ Q.length cQ]
  clear hsz
  go_enter Tryd.func9, Tryd.ntmps9
  go_upto_region 1 with (fail)
  rw [show w.alloc (.cells #[.slice aH H.length cH, .slice aQ Q.length cQ] 24) = W from hW.symm]
  clear hW
  have b0 := Bw.cell (i := 0) rfl
  have b1 := Bw.cell (i := 1) rfl
  rcases Nat.lt_or_ge 60 H.length with h1 | h1
  · have d1 : (60 < H.length) = True := eq_true h1
    have HK := Lib.hid (show decide (fewK H Q) = false from decide_eq_false fun h => by have := h.1.1; omega)
    go_wp2_with fail
    go_ret
    exact ⟨by rw [HK.out]; rfl, q⟩
  have d1 : (60 < H.length) = False := eq_false (by omega)
  rcases Nat.lt_or_ge 60 Q.length with h2 | h2
  · have d2 : (60 < Q.length) = True := eq_true h2
    have HK := Lib.hid (show decide (fewK H Q) = false from decide_eq_false fun h => by have := h.2.1; omega)
    go_wp2_with fail
    go_ret
    exact ⟨by rw [HK.out]; rfl, q⟩
  have d2 : (60 < Q.length) = False := eq_false (by omega)
  go_upto_region 4 with (fail)
  clear b0 b1
  go_loopw [3] (fun iv wr => ∃ (k : Nat), iv = .int .i64 k ∧ k ≤ H.length ∧ (∀ x ∈ H.take k, x.span.lo.length ≤ 100 ∧ x.span.hi.length ≤ 100) ∧ Below w.heap.size w wr ∧ BoxN wr w.heap.size 24 [.slice aH H.length cH, .slice aQ Q.length cQ])
    (fun i _ => H.length - (intOf i).toNat)
  case atStart => exact ⟨0, rfl, Nat.zero_le _, by simp, q, Bw⟩
  case round =>
    clear q Bw
    obtain ⟨k, rfl, hkl, hall, q, Bw⟩ := hrel
    have b0 := Bw.cell (i := 0) rfl
    have b1 := Bw.cell (i := 1) rfl
    rcases Nat.lt_or_ge k H.length with hlt | hge
    · obtain ⟨b, off, A, C, A2, C2, rfl, hb, c0, c1, c2, c3, c4, c5, c6, hk1, hk2, hw64⟩ := (hH.below q).lk k hlt
      by_cases h3 : 100 < H[k].span.lo.length
      · have d3 : (100 < H[k].span.lo.length) = True := eq_true h3
        have hno := Lib.hid (show decide (fewK H Q) = false from decide_eq_false fun h => by have := (h.1.2 _ (List.getElem_mem hlt)).1; omega)
        clear hall
        go_wp2_with fail
        go_ret
        exact ⟨by rw [hno.out]; rfl, q⟩
      · have d3 : (100 < H[k].span.lo.length) = False := eq_false h3
        by_cases h4 : 100 < H[k].span.hi.length
        · have d4 : (100 < H[k].span.hi.length) = True := eq_true h4
          have hno := Lib.hid (show decide (fewK H Q) = false from decide_eq_false fun h => by have := (h.1.2 _ (List.getElem_mem hlt)).2; omega)
          clear hall
          go_wp2_with fail
          go_ret
          exact ⟨by rw [hno.out]; rfl, q⟩
        · have d4 : (100 < H[k].span.hi.length) = False := eq_false h4
          have hall2 := Lib.hid (show ∀ x ∈ H.take (k + 1), x.span.lo.length ≤ 100 ∧ x.span.hi.length ≤ 100 from fun x hx => by
            rw [List.take_succ_eq_append_getElem hlt] at hx
            rcases List.mem_append.1 hx with h | h
            · exact hall x h
            · simp at h; rw [h]; exact ⟨by omega, by omega⟩)
          clear hall
          go_wp2_with fail
          go_roundw
          case rel => exact ⟨k + 1, by go_num, by omega, hall2.out, q, Bw⟩
          case measure => simp [intOf]; omega
    · obtain rfl : k = H.length := by omega
      have hallH := Lib.hid (show ∀ x ∈ H, x.span.lo.length ≤ 100 ∧ x.span.hi.length ≤ 100 from fun x hx => hall x (by rw [List.take_length]; exact hx))
      clear hall
      go_upto_region 9 with (fail)
      clear b0 b1
      go_loopw [4] (fun iv wr => ∃ (k : Nat), iv = .int .i64 k ∧ k ≤ Q.length ∧ (∀ x ∈ Q.take k, x.span.lo.length ≤ 100 ∧ x.span.hi.length ≤ 100) ∧ Below w.heap.size w wr ∧ BoxN wr w.heap.size 24 [.slice aH H.length cH, .slice aQ Q.length cQ])
        (fun i _ => Q.length - (intOf i).toNat)
      case atStart => exact ⟨0, rfl, Nat.zero_le _, by simp, q, Bw⟩
      case round =>
        clear q Bw
        obtain ⟨k, rfl, hkl, hall, q, Bw⟩ := hrel
        have b0 := Bw.cell (i := 0) rfl
        have b1 := Bw.cell (i := 1) rfl
        rcases Nat.lt_or_ge k Q.length with hlt | hge
        · obtain ⟨b, off, A, C, A2, C2, rfl, hb, c0, c1, c2, c3, c4, c5, c6, hk1, hk2, hw64⟩ := (hQ.below q).lk k hlt
          by_cases h3 : 100 < Q[k].span.lo.length
          · have d3 : (100 < Q[k].span.lo.length) = True := eq_true h3
            have hno := Lib.hid (show decide (fewK H Q) = false from decide_eq_false fun h => by have := (h.2.2 _ (List.getElem_mem hlt)).1; omega)
            clear hall
            go_wp2_with fail
            go_ret
            exact ⟨by rw [hno.out]; rfl, q⟩
          · have d3 : (100 < Q[k].span.lo.length) = False := eq_false h3
            by_cases h4 : 100 < Q[k].span.hi.length
            · have d4 : (100 < Q[k].span.hi.length) = True := eq_true h4
              have hno := Lib.hid (show decide (fewK H Q) = false from decide_eq_false fun h => by have := (h.2.2 _ (List.getElem_mem hlt)).2; omega)
              clear hall
              go_wp2_with fail
              go_ret
              exact ⟨by rw [hno.out]; rfl, q⟩
            · have d4 : (100 < Q[k].span.hi.length) = False := eq_false h4
              have hall2 := Lib.hid (show ∀ x ∈ Q.take (k + 1), x.span.lo.length ≤ 100 ∧ x.span.hi.length ≤ 100 from fun x hx => by
                rw [List.take_succ_eq_append_getElem hlt] at hx
                rcases List.mem_append.1 hx with h | h
                · exact hall x h
                · simp at h; rw [h]; exact ⟨by omega, by omega⟩)
              clear hall
              go_wp2_with fail
              go_roundw
              case rel => exact ⟨k + 1, by go_num, by omega, hall2.out, q, Bw⟩
              case measure => simp [intOf]; omega
        · obtain rfl : k = Q.length := by omega
          have hno := Lib.hid (show decide (fewK H Q) = true from decide_eq_true ⟨⟨h1, hallH.out⟩, h2, fun x hx => hall x (by rw [List.take_length]; exact hx)⟩)
          clear hall
          go_wp2_with fail
          go_ret
          exact ⟨by rw [hno.out]; rfl, q⟩
set_option maxRecDepth 100000 in
set_option maxHeartbeats 4000000 in
theorem numbers_any (w : World) {S S2 : Nat → Prop} {a a2 : Option Addr} {n cx n2 cy : Nat} {l m : List Int} (hl : RdL Elt.int S w (.slice a n cx) l) (hm : RdL Elt.int S2 w (.slice a2 n2 cy) m) :
    Calls Tryd.prog 11 #[.slice a n cx, .slice a2 n2 cy] w fun e w' => e = .returned (.bool (decide (l = m))) ∧ Below w.heap.size w w' := by
  obtain ⟨rfl, hnc, hcm⟩ := hl.len
  have hlm : l.length ≤ 9223372036854775807 := by unfold maxLen at hcm; omega
  obtain ⟨rfl, hnc2, hcm2⟩ := hm.len
  have hmm : m.length ≤ 9223372036854775807 := by unfold maxLen at hcm2; omega
  have q := Below.refl w.heap.size w
  go_enter Tryd.func11, Tryd.ntmps11
  by_cases hlen : l.length = m.length
  case neg =>
    have d1 : ((l.length : Int) == (m.length : Int)) = false := beq_eq_false_iff_ne.2 (by omega)
    have d2 : (l.length == m.length) = false := beq_eq_false_iff_ne.2 hlen
    have d3 : ((l.length : Int) != (m.length : Int)) = true := bne_iff_ne.2 (by omega)
    have HK := Lib.hid (show decide (l = m) = false from decide_eq_false fun h => hlen (by rw [h]))
    clear hlen
    go_wp2_with fail
    go_ret
    exact ⟨by first | (rw [HK.out]; done) | (rw [HK.out]; rfl), q⟩
  have d1 : ((l.length : Int) == (m.length : Int)) = true := beq_iff_eq.2 (by omega)
  have d2 : (l.length == m.length) = true := beq_iff_eq.2 hlen
  have d3 : ((l.length : Int) != (m.length : Int)) = false := by rw [bne, d1]; rfl
  replace hlen := Lib.hid hlen
  go_upto_region 4 with (fail)
  clear d1 d2 d3
  go_loopw [5] (fun iv wr => ∃ (k : Nat), iv = .int .i64 k ∧ k ≤ l.length ∧ l.take k = m.take k ∧ Below w.heap.size w wr)
    (fun i _ => l.length - (intOf i).toNat)
  case atStart => exact ⟨0, rfl, Nat.zero_le _, by simp, q⟩
  case round =>
    clear q
    obtain ⟨k, rfl, hkl, hall, q⟩ := hrel
    replace hall := Lib.hid hall
    rcases Nat.lt_or_ge k l.length with hlt | hge
    · have hltm : k < m.length := by have := hlen.out; omega
      obtain ⟨b1, o1, vs1, rfl, _, ⟨rfl, _⟩, hc1⟩ := (hl.below q).at k hlt
      obtain ⟨b2, o2, vs2, rfl, _, ⟨rfl, _⟩, hc2⟩ := (hm.below q).at k hltm
      have c0 : wr.cell? ⟨b1, o1 + k, none⟩ = some (.int .i64 l[k]) := by have := hc1 0 _ rfl; simpa [Elt.int] using this
      have c1 : wr.cell? ⟨b2, o2 + k, none⟩ = some (.int .i64 m[k]) := by have := hc2 0 _ rfl; simpa [Elt.int] using this
      clear hc1 hc2
      by_cases e : l[k] = m[k]
      · have H := Lib.hid (show l.take (k + 1) = m.take (k + 1) by rw [List.take_succ_eq_append_getElem hlt, List.take_succ_eq_append_getElem hltm, hall.out, e])
        have d4 : (l[k] == m[k]) = true := beq_iff_eq.2 e
        have d5 : (l[k] != m[k]) = false := by rw [bne, d4]; rfl
        have d6 : decide (l[k] = m[k]) = true := decide_eq_true e
        have d7 : ((k : Nat) : Int) < (m.length : Int) := by omega
        clear e hall
        go_upto_region 6 with (fail)
        go_quiet (fail)
        go_wp2_with fail
        go_roundw
        case rel => exact ⟨k + 1, by go_num, by omega, H.out, Below.drewN q _⟩
        case measure => simp [intOf]; omega
      · have H := Lib.hid (show decide (l = m) = false from decide_eq_false fun h => e (by subst h; rfl))
        have d4 : (l[k] == m[k]) = false := beq_eq_false_iff_ne.2 e
        have d5 : (l[k] != m[k]) = true := bne_iff_ne.2 e
        have d6 : decide (l[k] = m[k]) = false := decide_eq_false e
        have d7 : ((k : Nat) : Int) < (m.length : Int) := by omega
        clear e hall
        go_upto_region 6 with (fail)
        go_quiet (fail)
        go_wp2_with fail
        go_ret
        exact ⟨by first | (rw [H.out]; done) | (rw [H.out]; rfl), Below.drewN q _⟩
    · obtain rfl : k = l.length := by omega
      have H := Lib.hid (show decide (l = m) = true from decide_eq_true (by
        have h := hall.out
        rw [List.take_length, hlen.out, List.take_length] at h
        exact h))
      clear hall
      go_wp2_with fail
      go_ret
      exact ⟨by first | (rw [H.out]; done) | (rw [H.out]; rfl), q⟩
end Go.Proofs.YtpdnehgboafgpaaDoor
namespace Go.Proofs.YtpdnehgboafgpaaDoor
open Go.RowKit Go.Shelf
set_option maxRecDepth 100000 in
set_option maxHeartbeats 4000000 in
theorem sPoint_any (w : World) {S : Nat → Prop} {A : Option Addr} {n C : Nat} {k : List UInt8} {t : Int} (hk : RdS S w (.slice A n C) k) (ht : W64 t) (h1 : k.length ≤ 1000000) :
    Calls Tryd.prog 49 #[.int .i64 t, .slice A n C] w (SpEnd w (pointS t k)) := by
  obtain ⟨W, hW, q, Bz, hsz⟩ := spBox w 27 [.int .i64 0, .slice none 0 0, .slice none 0 0, .bool false]
  go_enter Tryd.func49, Tryd.ntmps49
  go_upto_region 1 with (fail)
  rw [show w.alloc (.cells #[.int .i64 0, .slice none 0 0, .slice none 0 0, .bool false] 27) = W from hW.symm]
  clear hW
  go_wp2_with fail
  refine (clone_any W (hk.below q).rd (Nat.le_refl _) h1).mono ?_
  rintro e w1 ⟨ad1, k1, c1, rfl, hf1⟩
  obtain rfl : k1 = k.length := hf1.len
  go_wp2_with fail
  refine (clone_any w1 (hk.below (q.trans (hf1.1.mono q.size))).rd (Nat.le_refl _) h1).mono ?_
  rintro e w2 ⟨ad2, k2, c2, rfl, hf2⟩
  obtain rfl : k2 = k.length := hf2.len
  go_wp2_with (refine wpList_append1 byP rfl (fun _ => rfl) rfl rfl (by first | (simp; done) | (simp [Act.put]; done)) rfl 0 (fun _ => rfl) rfl hf2.2 hf2.1.size ?_ (by omega)
               intro u ad3 k3 c3 w3 hO3 hb3
               obtain ⟨hi, ehi⟩ : ∃ hi, hi = k ++ [0] := ⟨_, rfl⟩
               rw [← ehi] at hO3
               obtain rfl : k3 = hi.length := hO3.len
               replace ehi := Lib.hid ehi
               have b03 : Below W.heap.size W w3 := (hf1.1.trans (hf2.1.mono hf1.1.size)).trans (hb3.mono hf1.1.size)
               have rl : RdS (fun g => W.heap.size ≤ g ∧ g < w3.heap.size) w3 (.slice ad1 k.length c1) k := ((hf1.2.rdS.below hf2.1).keep fun g hg => hb3.block g hg.2).weak fun g hg => ⟨hg.1, Nat.lt_of_lt_of_le hg.2 (hf2.1.trans hb3).size⟩
               have rh : RdS (fun g => W.heap.size ≤ g ∧ g < w3.heap.size) w3 (.slice ad3 hi.length c3) hi := hO3.rdS.weak fun g hg => ⟨Nat.le_trans hf1.1.size hg.1, hg.2⟩
               go_wp2_with (first | (refine wpList_boxStore (us := [.int .i64 t, .slice ad1 k.length c1, .slice ad3 hi.length c3, .bool false]) (by kernel_rfl) rfl rfl rfl rfl rfl rfl (Bz.below b03 Bz.lt) rfl ?_; intro w4 hg hB) | fail))
  have d0 := hB.cell (i := 0) rfl
  have d1 := hB.cell (i := 1) rfl
  have d2 := hB.cell (i := 2) rfl
  have d3 := hB.cell (i := 3) rfl
  obtain ⟨fs, hu, _⟩ := spS.hu
  refine bodyPost_ret (v := .agg #[.int .i64 t, .slice ad1 k.length c1, .slice ad3 hi.length c3, .bool false]) (by simp [results, Tryd.results49, go_sem, loadVar, isAgg, run_underlying hu, run_sizeOf' spS.hs, loadCellsFrom, Addr.add, d0, d1, d2, d3]) rfl ?_
  have hk0 : ∀ g, W.heap.size ≤ g ∧ g < w3.heap.size → w4.heap[g]? = w3.heap[g]? := fun g hg2 => hg.block g hg2.2 fun e => by injection e with e; omega
  unfold SpEnd
  rw [show pointS t k = ⟨t, k, hi, false⟩ by unfold pointS; rw [ehi.out]]
  exact ⟨_, rfl, ⟨ad1, c1, ad3, c3, rfl, (rl.keep hk0).weak fun g hg2 => ⟨by omega, Nat.lt_of_lt_of_le hg2.2 hg.size⟩, (rh.keep hk0).weak fun g hg2 => ⟨by omega, Nat.lt_of_lt_of_le hg2.2 hg.size⟩, ht⟩, (q.trans (b03.mono q.size)).grown hg (q.trans (b03.mono q.size)).size fun g e => by injection e with e; omega⟩
end Go.Proofs.YtpdnehgboafgpaaDoor
namespace Go.Proofs.YtpdnehgboafgpaaDoor
open Go.RowKit Go.Shelf
def k0 : Lk := ⟨0, false, pointS 0 [97], 5⟩
def k1 : Lk := ⟨1, false, pointS 0 [97], 3⟩
def k2 : Lk := ⟨2, false, pointS 0 [98], 5⟩
def k3 : Lk := ⟨1, false, pointS 0 [99], 3⟩
def u0 : Lk := ⟨0, true, ⟨0, [], [], false⟩, 2⟩
def u1 : Lk := ⟨0, true, ⟨0, [], [], false⟩, 3⟩
def v0 : Lk := ⟨0, true, ⟨0, [], [], false⟩, 4⟩
theorem made11 {α : Type} {E : Elt α} {S : Nat → Prop} {w : World} {x : α} {us : List Value} {b : Nat} {t : TypeId} (hx : E.R S w x us) (hrow : w.heap[b]? = some (.cells us.toArray t (0, 0))) (hS : S b) : RdL E S w (.slice (some ⟨b, 0, none⟩) 1 1) [x] :=
  ⟨_, 1, rfl, Nat.le_refl _, by unfold maxLen; omega, .inr ⟨b, 0, rfl, hS, fun r h => by
    obtain rfl : r = 0 := by simpa using h
    exact ⟨us, hx, fun j u hj => by simp [World.cell?, hrow, hj]⟩⟩⟩
end Go.Proofs.YtpdnehgboafgpaaDoor
