/-
  TEXTS OF ONE PROOF, merged: Zro, DltE, DltF, DltG, DltH, Range, Bri, Rnh, DltI.
-/
import Derived.BigFrameIn
import Derived.Laws.StructEq
import Derived.OrdersIn
import Derived.OwnWalkIn
import Derived.RangeFuncBound
import Derived.RangeFuncCalls
import Derived.RangeFuncLeaves
import Derived.RangeFuncNested
import Derived.TacticsIn
import Derived.Test.YtjbdkhddnblieaaMa3
namespace Go.Proofs.Ytjbdkhddnblieaa
open Go.RowKit
section
variable {α : Type} {E : Elt α} {P : Program} {T Te : TypeId} {ops : Array Oper} {rest : List Oper} {o : Oper} {a : Act} {Q : Exit → Act → World → Prop} {w : World} {K : Act → World → Prop}
theorem run_buildZero (hP : LoP P T Te E.size) (w : World) : (Instr.buildSlice T 0 #[]).run P w = .ok (.slice (some ⟨w.heap.size, 0, none⟩) 0 0) (w.alloc (.cells #[] Te)) := by
  obtain ⟨i, z, hi, hz, hsz, hby, hzs⟩ := hP.all
  have e0 : Array.range 0 = #[] := by decide
  simp [Instr.buildSlice, run_underlying hP.hT, sizeOf, typeInfo, hi, newRow, Instr.fill, e0]
theorem ownL_zero (E : Elt α) (Te : TypeId) (w : World) : OwnL E Te w.heap.size w.heap.size (w.alloc (.cells #[] Te)) (.slice (some ⟨w.heap.size, 0, none⟩) 0 0) [] := by
  refine ⟨[], ⟨by simp, .inr ⟨w.heap.size, 0, #[], rfl, Nat.le_refl _, ?_, by simp, by unfold maxLen; omega, by simp, by simp⟩⟩, rfl⟩
  simp only [World.alloc, Array.getElem?_push_size]
theorem wp_buildZero (hP : LoP P T Te E.size) (ho : o.op = .buildSlice T 0 #[]) (h : ∀ w', Below w.heap.size w w' → OwnL E Te w.heap.size w.heap.size w' (.slice (some ⟨w.heap.size, 0, none⟩) 0 0) [] → K (a.put o.dst (.slice (some ⟨w.heap.size, 0, none⟩) 0 0)) w') : o.wp P a w K Q := by
  have hrun := run_buildZero (E := E) hP w
  unfold Oper.wp execOp
  simp only [ho, Sem.run_bind, Sem.run_pure, Result.andThen_ok, List.map_toArray, List.map_nil, hrun]
  exact h _ ((Below.refl _ _).alloc (Nat.le_refl _) _) (ownL_zero E Te w)
theorem wpList_buildZero (hP : LoP P T Te E.size) (ho : o.op = .buildSlice T 0 #[]) (hgd : Region.wanted o (yielded ops a.tmps) = true) (h : ∀ w', Below w.heap.size w w' → OwnL E Te w.heap.size w.heap.size w' (.slice (some ⟨w.heap.size, 0, none⟩) 0 0) [] → wpList P ops Q rest (a.put o.dst (.slice (some ⟨w.heap.size, 0, none⟩) 0 0)) w') : wpList P ops Q (o :: rest) a w :=
  BigFrame.wpList_want hgd fun _ hK => wp_buildZero hP ho fun w' h1 h2 => hK _ _ (h w' h1 h2)
theorem wpList_append_zeroL (hP : LoP P T Te E.size) {s x : Operand} (ho : o.op = .call { callee := .builtin .append, args := #[s, x], argTypes := #[T, T] }) (hgd : Region.wanted o (yielded ops a.tmps) = true)
    {base lo : Nat} {g : Addr} {ax : Option Addr} {cx nx : Nat} {ys : List α} {S : Nat → Prop} (hs : a.eval s = .slice (some g) 0 0) (hown : OwnL E Te base lo w (.slice (some g) 0 0) []) (hx : a.eval x = .slice ax nx cx) (hr : RdL E S w (.slice ax nx cx) ys)
    (hS : ∀ k, S k → lo ≤ k ∧ k < w.heap.size) (hbase : base ≤ w.heap.size)
    (h : ∀ ad k cap w', OwnL E Te base lo w' (.slice ad k cap) ys → Below w.heap.size w w' → wpList P ops Q rest (a.put o.dst (.slice ad k cap)) w') (hlen : ys.length ≤ 1073741824) : wpList P ops Q (o :: rest) a w :=
  BigFrame.wpList_want hgd fun _ hK => wp_append_zeroL hP ho hs hown hx hr hS hbase (fun ad k cap w' h1 h2 => hK _ _ (h ad k cap w' h1 h2)) hlen
end
end Go.Proofs.Ytjbdkhddnblieaa
namespace Go.Proofs.Ytjbdkhddnblieaa
open Go.RowKit Go.Shelf
theorem OwnL.num {Te : TypeId} {base lo lo' : Nat} {w : World} {v : Value} {xs : List Int} (h : OwnL Elt.int Te base lo w v xs) : OwnL Elt.int Te base lo' w v xs := by
  obtain ⟨vs, h1, h2⟩ := h
  have hf : ∀ {S S' : Nat → Prop} {l : List Int} {us : List Value}, Flat Elt.int S w l us → Flat Elt.int S' w l us := by
    intro S S' l
    induction l with
    | nil => intro us h; exact h
    | cons x l ih => rintro us ⟨a, b, e, h3, h4⟩; exact ⟨a, b, e, h3, ih h4⟩
  exact ⟨vs, h1, hf h2⟩
theorem OwnL.num2 {Te : TypeId} {base lo : Nat} {w w' : World} {v : Value} {xs : List Int} (h : OwnL Elt.int Te base lo w v xs) (hk : ∀ g, v.ownBlock = some g → w'.heap[g]? = w.heap[g]?) : OwnL Elt.int Te base lo w' v xs := by
  obtain ⟨vs, h1, h2⟩ := h
  have hf : ∀ {S S' : Nat → Prop} {l : List Int} {us : List Value}, Flat Elt.int S w l us → Flat Elt.int S' w' l us := by
    intro S S' l
    induction l with
    | nil => intro us h; exact h
    | cons x l ih => rintro us ⟨a, b, e, h3, h4⟩; exact ⟨a, b, e, h3, ih h4⟩
  refine ⟨vs, ⟨h1.1, h1.2.imp id fun ⟨g, cap, cur, hv, hb, hg, r⟩ => ⟨g, cap, cur, hv, hb, (hk g (by rw [hv]; rfl)).trans hg, r⟩⟩, hf h2⟩
set_option maxRecDepth 100000 in
set_option maxHeartbeats 2000000 in
theorem cloneI_any (w : World) {S : Nat → Prop} {a : Option Addr} {n c : Nat} {l : List Int} (hl : RdL Elt.int S w (.slice a n c) l) (hn : l.length ≤ 1000000) :
    Calls Try.prog 47 #[.slice a n c] w fun e w' => ∃ a' c', e = .returned (.slice a' l.length c') ∧ OwnL Elt.int 3 w.heap.size w.heap.size w' (.slice a' l.length c') l ∧ Below w.heap.size w w' := by
  have he := fun (w : World) (ad : Option Addr) (n c : Nat) => Lib.run_eql_slice_nil (P := Try.prog) w 23 3 ad n c 0 0 inP.hT
  obtain ⟨rfl, _, _⟩ := hl.len
  cases a with
  | none =>
    obtain rfl : l = [] := by
      obtain ⟨_, _, e, _, _, h⟩ := hl
      injection e with e1 e2 _
      rcases h with h | ⟨b, off, h, _⟩
      · exact h
      · rw [h] at e1; cases e1
    go_enter Try.func47, Try.ntmps47
    go_wp2
    go_ret
    exact ⟨_, _, rfl, OwnL.nil _ _ _ _ _, Below.refl _ _⟩
  | some p =>
    go_enter Try.func47, Try.ntmps47
    go_wp2_with (go_big_may; first
      | (refine wpList_buildZero (E := Elt.int) inP rfl rfl ?_; intro w1 hb1 hO1)
      | (refine wpList_append_zeroL (E := Elt.int) inP rfl rfl rfl (hO1.to (Nat.le_refl _) (Nat.zero_le _)) rfl ((hl.below hb1).fit.weak fun k hk => hk.2) (fun k hk => ⟨Nat.zero_le _, hk⟩) hb1.size ?_ (by omega); intro ad' k' cap' w2 hO2 hb2)
      | fail)
    go_ret
    obtain rfl := hO2.len
    exact ⟨_, _, rfl, hO2.num, hb1.trans (hb2.mono hb1.size)⟩
def smD (d : Dl) : Prop := d.writes.length ≤ 1000000 ∧ d.marks.length ≤ 1000000 ∧ ∀ x ∈ d.writes, x.key.length ≤ 1000000 ∧ x.val.length ≤ 1000000
def OwnD (B : Nat) (w : World) (v : Value) (d : Dl) : Prop := ∃ a c a2 c2 M, B ≤ M ∧ M ≤ w.heap.size ∧ v = .agg #[.slice a d.writes.length c, .slice a2 d.marks.length c2] ∧ OwnL Elt.wr 28 M M w (.slice a d.writes.length c) d.writes ∧ OwnL Elt.int 3 B B w (.slice a2 d.marks.length c2) d.marks ∧ ∀ g, Value.ownBlock (.slice a2 d.marks.length c2) = some g → g < M
theorem OwnD.rd {B : Nat} {w : World} {v : Value} {d : Dl} (h : OwnD B w v d) : RdDl (fun k => B ≤ k ∧ k < w.heap.size) w v d := by
  obtain ⟨a, c, a2, c2, M, h1, _, rfl, h2, h3, _⟩ := h
  exact ⟨a, c, a2, c2, rfl, h2.rdS fun k hk hl => ⟨by omega, hl⟩, h3.rdS fun k hk hl => ⟨by omega, hl⟩⟩
set_option maxRecDepth 100000 in
set_option maxHeartbeats 4000000 in
theorem dCopied_any (w : World) {S : Nat → Prop} {v : Value} {d : Dl} (h : RdDl S w v d) (hs : smD d) :
    Calls Try.prog 29 #[v] w fun e w' => ∃ v', e = .returned v' ∧ OwnD w.heap.size w' v' d ∧ Below w.heap.size w w' := by
  obtain ⟨a, c, a2, c2, rfl, hw, hm⟩ := h
  obtain ⟨hs1, hs2, hs3⟩ := hs
  obtain ⟨W0, hW, q, bn, bz, hsz⟩ := boxes2 w 25 25 [.slice a d.writes.length c, .slice a2 d.marks.length c2] [.slice none 0 0, .slice none 0 0]
  have eA : ∀ args w, (callFunc 31 args).run Try.prog w = .ok (.enter 31 args) w := enters_of Try.func31 (by kernel_rfl) rfl
  go_enter Try.func29, Try.ntmps29
  go_upto_region 1 with (fail)
  rw [show (w.alloc (.cells #[.slice a d.writes.length c, .slice a2 d.marks.length c2] 25)).alloc (.cells #[.slice none 0 0, .slice none 0 0] 25) = W0 from hW.symm]
  clear hW
  have b0 := bn.cell (i := 0) rfl
  have b1 := bn.cell (i := 1) rfl
  go_wp2_with fail
  refine (cloneI_any W0 (hm.below q) hs2).mono ?_
  rintro e w1 ⟨m1, mc, rfl, hM, hb1⟩
  have q1 := q.trans (hb1.mono q.size)
  have bn1 := bn.below hb1 bn.lt
  have bz1 := bz.below hb1 bz.lt
  clear b0 b1 bn bz
  have b0 := bn1.cell (i := 0) rfl
  go_upto_region 2 with (first | (refine wpList_boxNew (vs := [.slice none 0 0, .slice none 0 0]) (by kernel_rfl) rfl rfl ?_; intro w2 hb2 hB2) | (refine wpList_boxStore (us := [.slice none 0 0, .slice m1 d.marks.length mc]) (by kernel_rfl) rfl rfl rfl rfl rfl rfl hB2 rfl ?_; intro w3 hg3 hB3) | fail)
  have qb3 : Below w1.heap.size w1 w3 := hb2.grown hg3 hb2.size fun k hk => by injection hk with hk; omega
  have q3 := q1.trans (qb3.mono q1.size)
  have hs3x := hB3.lt
  clear b0
  have b0 := (bn1.below qb3 bn1.lt).cell (i := 0) rfl
  go_upto_region 3 with (fail)
  clear b0 hb2 hB2 hg3
  go_loopw [13] (fun iv wr => ∃ (k : Nat) (ad : Option Addr) (ko : Nat), iv = .int .i64 k ∧ k ≤ d.writes.length ∧ OwnL Elt.wr 28 (w1.heap.size + 1) (w1.heap.size + 1) wr (.slice ad (d.writes.take k).length ko) (d.writes.take k) ∧ BoxN wr w1.heap.size 25 [.slice ad (d.writes.take k).length ko, .slice m1 d.marks.length mc] ∧ Below w1.heap.size w1 wr)
    (fun i _ => d.writes.length - (intOf i).toNat)
  case atStart => exact ⟨0, none, 0, rfl, Nat.zero_le _, OwnL.nil _ _ _ _ _, hB3, qb3⟩
  case round =>
    clear hB3 qb3 q3
    obtain ⟨k, ad, ko, rfl, hkl, hO, hB, qr⟩ := hrel
    have q := q1.trans (qr.mono q1.size)
    rcases Nat.lt_or_ge k d.writes.length with hlt | hge
    · obtain ⟨b, off, KA, KC, VA, VC, rfl, hb, c0, c1, c2, c3, hk1, hk2, hw64⟩ := (hw.below q).wr k hlt
      obtain ⟨hx1, hx2⟩ := hs3 _ (List.getElem_mem hlt)
      have hsn := Lib.hid (show d.writes.take (k + 1) = d.writes.take k ++ [d.writes[k]] from List.take_succ_eq_append_getElem hlt)
      obtain ⟨x, ex⟩ : ∃ x, x = d.writes[k] := ⟨_, rfl⟩
      obtain ⟨xs, exs⟩ : ∃ xs, xs = d.writes.take k := ⟨_, rfl⟩
      have hxl : xs.length ≤ 1000000 := by rw [exs, List.length_take]; omega
      rw [← ex] at c0 c1 c2 c3 hk1 hk2 hw64 hx1 hx2 hsn
      rw [← exs] at hO hB hsn
      clear ex exs
      have hx : RdWr S wr (.agg #[.int .i64 x.table, .slice KA x.key.length KC, .bool x.gone, .slice VA x.val.length VC]) x := ⟨KA, KC, VA, VC, rfl, hk1, hk2, hw64⟩
      go_upto_region 5 with (first | (refine wpList_boxNew (vs := [.int .i64 0, .slice none 0 0, .bool false, .slice none 0 0]) (by kernel_rfl) rfl rfl ?_; intro wa hba hBa) | (refine wpList_boxStore (us := [.int .i64 x.table, .slice KA x.key.length KC, .bool x.gone, .slice VA x.val.length VC]) (by kernel_rfl) rfl rfl rfl rfl rfl rfl hBa rfl ?_; intro W hgw hXW) | fail)
      go_simp
      have hbw : Below wr.heap.size wr W := hba.grown hgw hba.size fun k hk => by injection hk with hk; omega
      have qW := qr.trans (hbw.mono qr.size)
      have hsW := hXW.lt
      have hBlt := hB.lt
      have hBW := hB.below hbw hB.lt
      have hrr : ∀ k, Value.ownBlock (.slice ad xs.length ko) = some k → w1.heap.size + 1 ≤ k ∧ k < wr.heap.size := fun k hk => hO.block_lt k hk
      have hrW : ∀ k, Value.ownBlock (.slice ad xs.length ko) = some k → k < W.heap.size := fun k hk => by have := hrr k hk; omega
      replace hO := (hO.below hbw).but (b := w1.heap.size) (fun k hk _ => by omega)
      replace hx := hx.below hbw
      have hlo : w1.heap.size + 1 ≤ W.heap.size := by omega
      have hxr : some wr.heap.size ≠ Value.ownBlock (.slice ad xs.length ko) := fun e => by have := hrr _ e.symm; omega
      have hxb : wr.heap.size ≠ w1.heap.size := by omega
      have hbr : Value.ownBlock (.slice ad xs.length ko) ≠ some w1.heap.size := fun e => by have := hrr _ e; omega
      have hb1 : w1.heap.size < w1.heap.size + 1 := by omega
      have hb2 : w1.heap.size < w1.heap.size + 1 := by omega
      clear c0 c1 c2 c3 hk1 hk2 hba hBa hgw hbw hB q
      refine wp_region_lnl (K := fun A B => Twb A B (Value.ownBlock (.slice ad xs.length ko)) (w1.heap.size)) (by kernel_rfl) (by kernel_rfl) [3, 5, 7] (by kernel_rfl) [lEq (.pointer (some ⟨w1.heap.size, 0 + 0, none⟩)), lEq (.slice ad xs.length ko), lEq (.agg #[.int .i64 x.table, .slice KA x.key.length KC, .bool x.gone, .slice VA x.val.length VC]), lAny, pRow Elt.wr 28 (W) (Value.ownBlock (.slice ad xs.length ko)) (w1.heap.size) x hrW hBW.lt, lAny, lEq (.pointer (some ⟨w1.heap.size, 0 + 0, none⟩)), lAny] (PshJ Elt.wr 28 ((w1.heap.size + 1)) ((w1.heap.size + 1)) (Value.ownBlock (.slice ad xs.length ko)) (w1.heap.size) 25 [.slice ad xs.length ko, .slice m1 d.marks.length mc] 0 (W) (xs) x) PshJ.below (show Below (W).heap.size (W) (W) from Below.refl _ _)
        ⟨?o0, ?o1, ?o2, ?o3, ?o4, ?o5, ?o6, ?o7, trivial⟩ ?fin
      case o0 =>
        refine LnOp.side rfl (by kernel_rfl) (fun A va w' k hF hT hk hJ hb hu hp hd => ?_)
        have e1 : A.eval (.tmp 3) = .pointer (some ⟨w1.heap.size, 0, none⟩) := hF 3 rfl
        exact wp_fieldN dlS rfl (e1) (by omega) ⟨_, rfl, rfl, Below.refl _ _⟩
      case o1 =>
        refine LnOp.side rfl (by kernel_rfl) (fun A va w' k hF hT hk hJ hb hu hp hd => ?_)
        have e1 : A.eval (.tmp 17) = .pointer (some ⟨w1.heap.size, 0 + 0, none⟩) := (hT 17 0 (by simp) rfl).trans (hd ⟨0, .data⟩ (by simp) rfl rfl)
        have hk1 : k ≤ 1 := hb 1 5 rfl (by kernel_rfl)
        have hJ0 := PshJ.early hJ (by simp only [List.length_map, List.length_take]; omega)
        exact wp_ld_slice (e := 28) rfl e1 (by kernel_rfl) ((hBW.below hJ0 hBW.lt).cell (i := 0) rfl) ⟨_, rfl, rfl, Below.refl _ _⟩
      case o2 =>
        refine LnOp.side rfl (by kernel_rfl) (fun A va w' k hF hT hk hJ hb hu hp hd => ?_)
        have e1 : A.eval (.tmp 5) = .pointer (some ⟨wr.heap.size, 0, none⟩) := hF 5 rfl
        have hX2 := (PshJ.two hJ).boxN hXW hxr hxb
        exact wp_load4 wrS rfl e1 (hX2.cell (i := 0) rfl) (hX2.cell (i := 1) rfl) (hX2.cell (i := 2) rfl) (hX2.cell (i := 3) rfl) ⟨_, rfl, rfl, Below.refl _ _⟩
      case o3 =>
        refine LnOp.line 0 rfl rfl (fun A va w' hF hT hJ hu hd => ?_)
        have e1 : A.eval (.tmp 19) = .agg #[.int .i64 x.table, .slice KA x.key.length KC, .bool x.gone, .slice VA x.val.length VC] := (hT 19 2 (by simp) rfl).trans (hd ⟨2, .data⟩ (by simp) rfl rfl)
        have hJ0 : Below (W).heap.size (W) w' := hJ
        refine wp_callFn rfl eA (by simp only [List.map_toArray, List.map_cons, List.map_nil, e1]) ((dAlone_any w' (hx.below hJ0) hx1 hx2).mono ?_)
        rintro e w2 ⟨v2, rfl, ⟨ka, kc, va2, vc, rfl, hk2, hv2, ht2⟩, hb2⟩
        have hR : Elt.wr.R (fun k => W.heap.size ≤ k ∧ k < w2.heap.size) w2 x (wrC x (.slice ka x.key.length kc) (.slice va2 x.val.length vc)) := ⟨_, _, rfl, hk2.weak fun k hk => ⟨Nat.le_trans hJ0.size hk.1, hk.2⟩, hv2.weak fun k hk => ⟨Nat.le_trans hJ0.size hk.1, hk.2⟩, ht2⟩
        exact ⟨_, rfl, _, rfl, ⟨hJ0.trans (hb2.mono hJ0.size), _, rfl, hR⟩, (Twb.refl (r := Value.ownBlock (.slice ad xs.length ko)) (b := w1.heap.size)).below hb2⟩
      case o4 =>
        refine LnOp.side rfl (by kernel_rfl) (fun A va w' k hF hT hk hJ hb hu hp hd => ?_)
        have x1 : A.eval (.tmp 20) = va 3 := hT 20 3 (by simp) rfl
        obtain rfl : k = 1 := by
          have h1 := hp ⟨3, .data⟩ (by simp) rfl 0 rfl
          have h2 := hb 1 5 rfl (by kernel_rfl)
          omega
        obtain ⟨hJ0, us, eus, hR⟩ := hJ
        have hb1 : Below w'.heap.size w' (w'.alloc (.cells us.toArray 28)) := (Below.refl _ _).alloc (Nat.le_refl _) _
        exact wp_buildOne wrP rfl x1 eus (Elt.len _ hR) (by decide) (by decide) ⟨_, rfl, ⟨_, us, rfl, hJ0.size, by simp only [World.alloc, Array.getElem?_push_size], Elt.weak _ (Elt.below hR hb1) fun k hk => ⟨hk.1, Nat.lt_of_lt_of_le hk.2 hb1.size⟩⟩, hb1⟩
      case o5 =>
        refine LnOp.line 1 rfl rfl (fun A va w' hF hT hJ hu hd => ?_)
        have e1 : A.eval (.tmp 18) = .slice ad xs.length ko := (hT 18 1 (by simp) rfl).trans (hd ⟨1, .data⟩ (by simp) rfl rfl)
        have x2 : A.eval (.tmp 21) = va 4 := hT 21 4 (by simp) rfl
        have y2 := hd ⟨4, .data⟩ (by simp) rfl rfl
        have hJ' := hJ
        obtain ⟨hJ0, _⟩ := hJ
        obtain ⟨g, us, eg, hg0, hgc, hgR⟩ : ∃ g, ∃ us : List Value, va 4 = .slice (some ⟨g, 0, none⟩) 1 1 ∧ (W).heap.size ≤ g ∧ w'.heap[g]? = some (.cells us.toArray 28 (0, 0)) ∧ Elt.R Elt.wr (fun k => (W).heap.size ≤ k ∧ k < w'.heap.size) w' x us := y2
        refine wp_appendL (E := Elt.but Elt.wr (w1.heap.size)) (ys := [x]) wrP rfl e1 (hO.below hJ0) (x2.trans eg) (fun j u hj => by rw [Addr.add_lit, World.cell?, hgc]; simpa using hj) (Flat.single (Elt.weak Elt.wr hgR fun k hk => ⟨hk, fun e => by have := hk.1; have := hBW.lt; omega⟩)) (fun k hk => ⟨Nat.le_trans hlo hk.1, hk.2, fun e => by have := hrW k e.symm; omega⟩) (Nat.le_trans hlo hJ0.size) (fun ad7 k7 cap7 w2 h2 hg h3 => ?_) (by simp; omega)
        obtain rfl : k7 = (xs ++ [x]).length := h2.len
        exact ⟨_, rfl, PshJ.app hJ' hBW h2 hg hbr h3, (Twb.refl (b := w1.heap.size)).row hg⟩
      case o6 =>
        refine LnOp.side rfl (by kernel_rfl) (fun A va w' k hF hT hk hJ hb hu hp hd => ?_)
        have e1 : A.eval (.tmp 3) = .pointer (some ⟨w1.heap.size, 0, none⟩) := hF 3 rfl
        exact wp_fieldN dlS rfl (e1) (by omega) ⟨_, rfl, rfl, Below.refl _ _⟩
      case o7 =>
        refine LnOp.line 2 rfl rfl (fun A va w' hF hT hJ hu hd => ?_)
        have e1 : A.eval (.tmp 23) = .pointer (some ⟨w1.heap.size, 0 + 0, none⟩) := (hT 23 6 (by simp) rfl).trans (hd ⟨6, .data⟩ (by simp) rfl rfl)
        have x2 : A.eval (.tmp 22) = va 5 := hT 22 5 (by simp) rfl
        have hJ' := hJ
        obtain ⟨hJ0, ad7, c7, es, hOs, hBs, hn7⟩ := hJ
        refine wp_boxSet (j := 0) rfl (by kernel_rfl) e1 (x2.trans es) rfl rfl hBs (by simp) (fun w2 hg hB2 => ?_)
        exact ⟨_, rfl, PshJ.sto hJ' hOs hn7 hg hB2, (Twb.refl (r := Value.ownBlock (.slice ad xs.length ko))).box hg⟩
      case fin =>
        intro vs1 W9 hJ hG
        obtain ⟨htw, ad9, c9, hO9, hB9, hn9⟩ := hJ
        have g0 : vs1 0 = .pointer (some ⟨w1.heap.size, 0 + 0, none⟩) := hG 0 (by decide) rfl
        have g1 : vs1 1 = .slice ad xs.length ko := hG 1 (by decide) rfl
        have g2 : vs1 2 = .agg #[.int .i64 x.table, .slice KA x.key.length KC, .bool x.gone, .slice VA x.val.length VC] := hG 2 (by decide) rfl
        have g6 : vs1 6 = .pointer (some ⟨w1.heap.size, 0 + 0, none⟩) := hG 6 (by decide) rfl
        clear hG
        simp only [putAll, g0, g1, g2, g6]
        clear g0 g1 g2 g6
        go_simp
        have q9 := htw.belowB (w0 := w1) qW (fun k hk => by have := hrr k hk; omega) (Nat.le_refl _)
        replace hO9 := hO9.unbut
        rw [← hsn.out] at hO9 hB9
        clear hBW hXW hO hx hsn htw hn9
        go_wp2_with fail
        go_roundw
        case rel => exact ⟨k + 1, ad9, c9, by go_num, by omega, hO9, hB9, q9⟩
        case measure => simp [intOf]; omega
    · obtain rfl : k = d.writes.length := by omega
      rw [List.take_length] at hO hB
      have b0 := hB.cell (i := 0) rfl
      have b1 := hB.cell (i := 1) rfl
      have bz2 := bz1.below qr bz1.lt
      have hM2 := hM.below qr
      go_wp2_with (first | (refine wpList_boxStore (us := [.slice ad d.writes.length ko, .slice m1 d.marks.length mc]) (by kernel_rfl) rfl rfl rfl rfl rfl rfl bz2 rfl ?_; intro wd hgd hBd) | fail)
      have d0 := hBd.cell (i := 0) rfl
      have d1 := hBd.cell (i := 1) rfl
      obtain ⟨fs, hu, _⟩ := dlS.hu
      refine bodyPost_ret (v := .agg #[.slice ad d.writes.length ko, .slice m1 d.marks.length mc]) (by simp [results, Try.results29, go_sem, loadVar, isAgg, run_underlying hu, run_sizeOf' dlS.hs, loadCellsFrom, Addr.add, d0, d1]) rfl ?_
      have hz1 := hb1.size
      have hzd := hgd.size
      have hB2 := hB.lt
      exact ⟨_, rfl, ⟨ad, ko, m1, mc, w1.heap.size + 1, by omega, by omega, rfl, hO.other hgd (by omega) (by omega), (hM2.other hgd (by omega) (by omega)).to (by omega) (by omega), fun g hg => by have := (hM.block_lt g hg).2; omega⟩, q.grown hgd q.size fun k e => by injection e with e; omega⟩
end Go.Proofs.Ytjbdkhddnblieaa
namespace Go.Proofs.Ytjbdkhddnblieaa
open Go.RowKit Go.Shelf
theorem boxes3 (w : World) (t t2 t3 : TypeId) (us vs ys : List Value) : ∃ W, W = ((w.alloc (.cells us.toArray t)).alloc (.cells vs.toArray t2)).alloc (.cells ys.toArray t3) ∧ Below w.heap.size w W ∧ BoxN W w.heap.size t us ∧ BoxN W (w.heap.size + 1) t2 vs ∧ BoxN W (w.heap.size + 1 + 1) t3 ys ∧ W.heap.size = w.heap.size + 1 + 1 + 1 := by
  obtain ⟨w1, h1, q1, b1, b2, s1⟩ := boxes2 w t t2 us vs
  rw [← h1]
  have h3 : Below w1.heap.size w1 (w1.alloc (.cells ys.toArray t3)) := (Below.refl _ _).alloc (Nat.le_refl _) _
  have s3 : (w1.alloc (.cells ys.toArray t3)).heap.size = w1.heap.size + 1 := World.size_alloc _ _
  have b3 := BoxN.new w1 t3 ys
  rw [s1] at b3 s3
  exact ⟨_, rfl, q1.trans (h3.mono q1.size), b1.below h3 (by omega), b2.below h3 (by omega), b3, s3⟩
theorem OwnL.apart2 {α β : Type} {E : Elt α} {F : Elt β} {Te Tf : TypeId} (hne : Te ≠ Tf) {b1 l1 b2 l2 : Nat} {w : World} {v1 v2 : Value} {xs : List α} {ys : List β} (h1 : OwnL E Te b1 l1 w v1 xs) (h2 : OwnL F Tf b2 l2 w v2 ys) : v1.ownBlock = none ∨ v1.ownBlock ≠ v2.ownBlock := by
  obtain ⟨_, h1, _⟩ := h1
  obtain ⟨_, h2, _⟩ := h2
  exact rows_apart hne h1 h2
def DlEnd (w : World) (r : Dl × Nat) (e : Ending) (w' : World) : Prop := ∃ v', e = .returned (.tuple #[v', .int .i64 (r.2 : Nat)]) ∧ RdDl (fun k => w.heap.size ≤ k ∧ k < w'.heap.size) w' v' r.1 ∧ Below w.heap.size w w'
set_option maxRecDepth 100000 in
set_option maxHeartbeats 8000000 in
theorem dPut_any (w : World) {S S2 : Nat → Prop} {v u : Value} {d : Dl} {x : Wr} (h : RdDl S w v d) (hs : smD d) (hx : RdWr S2 w u x) (hx1 : x.key.length ≤ 1000000) (hx2 : x.val.length ≤ 1000000) :
    Calls Try.prog 10 #[v, u] w (DlEnd w (putD d x)) := by
  have hd := h
  obtain ⟨a, c, a2, c2, rfl, hw, hm⟩ := h
  have hx0 := hx
  obtain ⟨KA, KC, VA, VC, rfl, hk, hv, ht⟩ := hx
  obtain ⟨W0, hW, q, bn, bx, bz, hsz⟩ := boxes3 w 25 28 25 [.slice a d.writes.length c, .slice a2 d.marks.length c2] [.int .i64 x.table, .slice KA x.key.length KC, .bool x.gone, .slice VA x.val.length VC] [.slice none 0 0, .slice none 0 0]
  have eA : ∀ args w, (callFunc 31 args).run Try.prog w = .ok (.enter 31 args) w := enters_of Try.func31 (by kernel_rfl) rfl
  have hs1 := hs.1
  go_enter Try.func10, Try.ntmps10
  go_upto_region 1 with (fail)
  rw [show ((w.alloc (.cells #[.slice a d.writes.length c, .slice a2 d.marks.length c2] 25)).alloc (.cells #[.int .i64 x.table, .slice KA x.key.length KC, .bool x.gone, .slice VA x.val.length VC] 28)).alloc (.cells #[.slice none 0 0, .slice none 0 0] 25) = W0 from hW.symm]
  clear hW
  have b0 := bn.cell (i := 0) rfl
  have b1 := bn.cell (i := 1) rfl
  go_wp2_with fail
  refine (dCopied_any W0 (hd.below q) hs).mono ?_
  rintro e w1 ⟨_, rfl, ⟨wa, wc, ma, mc, M, hM0, hM1, rfl, hOw, hOm, hMm⟩, hb1⟩
  have q1 := q.trans (hb1.mono q.size)
  have z1 := hb1.size
  have hOw0 := hOw.block_lt
  have hOm0 := hOm.block_lt
  replace hOw := hOw.but (b := w1.heap.size) (fun k _ hk => by omega)
  replace bn := bn.below hb1 bn.lt
  replace bx := bx.below hb1 bx.lt
  replace bz := bz.below hb1 bz.lt
  clear b0 b1
  go_upto_region 2 with (first | (refine wpList_boxNew (vs := [.slice none 0 0, .slice none 0 0]) (by kernel_rfl) rfl rfl ?_; intro w2 hb2 hB2) | (refine wpList_boxStore (us := [.slice wa d.writes.length wc, .slice ma d.marks.length mc]) (by kernel_rfl) rfl rfl rfl rfl rfl rfl hB2 rfl ?_; intro w3 hg3 hBO) | fail)
  go_simp
  have qb3 : Below w1.heap.size w1 w3 := hb2.grown hg3 hb2.size fun k hk => by injection hk with hk; omega
  have zO := hBO.lt
  replace q := q1.trans (qb3.mono q1.size)
  replace bn := bn.below qb3 bn.lt
  replace bx := bx.below qb3 bx.lt
  have hBZ := bz.below qb3 bz.lt
  replace hOw := hOw.below qb3
  replace hOm := hOm.below qb3
  obtain ⟨BO, eBO⟩ : ∃ BO, BO = w1.heap.size := ⟨_, rfl⟩
  rw [← eBO] at hBO zO hOw0 hOm0 hOw hM1
  rw [← eBO]
  have zBO : W0.heap.size ≤ BO := by omega
  clear hb2 hB2 hg3 qb3 q1 eBO bz hb1 z1
  have b0 := bn.cell (i := 0) rfl
  have b1 := bn.cell (i := 1) rfl
  go_wp2_with fail
  refine (dCheck_any w3 (hd.below q)).mono ?_
  rintro e w4 ⟨rfl, hb4⟩
  replace q := q.trans (hb4.mono q.size)
  replace bn := bn.below hb4 bn.lt
  replace bx := bx.below hb4 bx.lt
  replace hBO := hBO.below hb4 hBO.lt
  replace hBZ := hBZ.below hb4 hBZ.lt
  replace hOw := hOw.below hb4
  replace hOm := hOm.below hb4
  clear b0 b1
  by_cases hok : okD d
  · have dok : decide (okD d) = true := decide_eq_true hok
    have b0 := bx.cell (i := 0) rfl
    have b1 := bx.cell (i := 1) rfl
    have b2 := bx.cell (i := 2) rfl
    have b3 := bx.cell (i := 3) rfl
    have z4 := hb4.size
    clear hb4
    go_wp2_with fail
    refine (wrong_any w4 (hx0.below q)).mono ?_
    rintro e w5 ⟨rfl, hb5⟩
    replace q := q.trans (hb5.mono q.size)
    replace bn := bn.below hb5 bn.lt
    replace bx := bx.below hb5 bx.lt
    replace hBO := hBO.below hb5 hBO.lt
    replace hBZ := hBZ.below hb5 hBZ.lt
    replace hOw := hOw.below hb5
    replace hOm := hOm.below hb5
    have z5 := hb5.size
    clear b0 b1 b2 b3 hb5
    by_cases hmay : mayW x
    · have dm : decide (mayW x) = true := decide_eq_true hmay
      have b0 := bn.cell (i := 0) rfl
      by_cases hfull : d.writes.length = 20
      · have d20 : ((d.writes.length : Int) == 20) = true := beq_iff_eq.2 (by omega)
        have HK := Lib.hid (show putD d x = (d, 80) by unfold putD; rw [if_pos ⟨hok, hmay⟩, if_pos hfull])
        clear hfull
        have o0 := hBO.cell (i := 0) rfl
        have o1 := hBO.cell (i := 1) rfl
        go_wp2_with (first | (refine wpList_boxStore (us := [.slice wa d.writes.length wc, .slice ma d.marks.length mc]) (by kernel_rfl) rfl rfl rfl rfl rfl rfl hBZ rfl ?_; intro wd hgd hBd) | fail)
        have d0 := hBd.cell (i := 0) rfl
        have d1 := hBd.cell (i := 1) rfl
        obtain ⟨fs, hu, _⟩ := dlS.hu
        refine bodyPost_ret (v := .tuple #[.agg #[.slice wa d.writes.length wc, .slice ma d.marks.length mc], .int .i64 80]) (by simp [results, Try.results10, go_sem, loadVar, isAgg, run_underlying hu, run_sizeOf' dlS.hs, loadCellsFrom, Addr.add, d0, d1]) rfl ?_
        rw [DlEnd, HK.out]
        exact ⟨_, rfl, ⟨wa, wc, ma, mc, rfl, (hOw.unbut.other hgd (by omega) (by omega)).rdS fun k hk hl => ⟨by omega, hl⟩, (hOm.other hgd (by omega) (by omega)).rdS fun k hk hl => ⟨by omega, hl⟩⟩, q.grown hgd q.size fun k e => by injection e with e; omega⟩
      · have d20 : ((d.writes.length : Int) == 20) = false := beq_eq_false_iff_ne.2 (by omega)
        have HK := Lib.hid (show putD d x = (⟨d.writes ++ [x], d.marks⟩, 0) by unfold putD; rw [if_pos ⟨hok, hmay⟩, if_neg hfull])
        go_upto_region 6 with (fail)
        clear b0
        have hrW : ∀ k, Value.ownBlock (.slice wa d.writes.length wc) = some k → k < w5.heap.size := fun k hk => by have := hOw0 k hk; omega
        have hlo : M ≤ w5.heap.size := by omega
        have hxr : some (w.heap.size + 1) ≠ Value.ownBlock (.slice wa d.writes.length wc) := fun e => by have := hOw0 _ e.symm; omega
        have hxb : w.heap.size + 1 ≠ BO := by omega
        have hbr : Value.ownBlock (.slice wa d.writes.length wc) ≠ some BO := fun e => by have := hOw0 _ e; omega
        refine wp_region_lnl (K := fun A B => Twb A B (Value.ownBlock (.slice wa d.writes.length wc)) (BO)) (by kernel_rfl) (by kernel_rfl) [3, 5, 7] (by kernel_rfl) [lEq (.pointer (some ⟨BO, 0 + 0, none⟩)), lEq (.slice wa d.writes.length wc), lEq (.agg #[.int .i64 x.table, .slice KA x.key.length KC, .bool x.gone, .slice VA x.val.length VC]), lAny, pRow Elt.wr 28 (w5) (Value.ownBlock (.slice wa d.writes.length wc)) (BO) x hrW hBO.lt, lAny, lEq (.pointer (some ⟨BO, 0 + 0, none⟩)), lAny] (PshJ Elt.wr 28 (M) (M) (Value.ownBlock (.slice wa d.writes.length wc)) (BO) 25 [.slice wa d.writes.length wc, .slice ma d.marks.length mc] 0 (w5) (d.writes) x) PshJ.below (show Below (w5).heap.size (w5) (w5) from Below.refl _ _)
          ⟨?o0, ?o1, ?o2, ?o3, ?o4, ?o5, ?o6, ?o7, trivial⟩ ?fin
        case o0 =>
          refine LnOp.side rfl (by kernel_rfl) (fun A va w' k hF hT hk hJ hb hu hp hd => ?_)
          have e1 : A.eval (.tmp 6) = .pointer (some ⟨BO, 0, none⟩) := hF 6 rfl
          exact wp_fieldN dlS rfl (e1) (by omega) ⟨_, rfl, rfl, Below.refl _ _⟩
        case o1 =>
          refine LnOp.side rfl (by kernel_rfl) (fun A va w' k hF hT hk hJ hb hu hp hd => ?_)
          have e1 : A.eval (.tmp 24) = .pointer (some ⟨BO, 0 + 0, none⟩) := (hT 24 0 (by simp) rfl).trans (hd ⟨0, .data⟩ (by simp) rfl rfl)
          have hk1 : k ≤ 1 := hb 1 5 rfl (by kernel_rfl)
          have hJ0 := PshJ.early hJ (by simp only [List.length_map, List.length_take]; omega)
          exact wp_ld_slice (e := 28) rfl e1 (by kernel_rfl) ((hBO.below hJ0 hBO.lt).cell (i := 0) rfl) ⟨_, rfl, rfl, Below.refl _ _⟩
        case o2 =>
          refine LnOp.side rfl (by kernel_rfl) (fun A va w' k hF hT hk hJ hb hu hp hd => ?_)
          have e1 : A.eval (.tmp 3) = .pointer (some ⟨w.heap.size + 1, 0, none⟩) := hF 3 rfl
          have hX2 := (PshJ.two hJ).boxN bx hxr hxb
          exact wp_load4 wrS rfl e1 (hX2.cell (i := 0) rfl) (hX2.cell (i := 1) rfl) (hX2.cell (i := 2) rfl) (hX2.cell (i := 3) rfl) ⟨_, rfl, rfl, Below.refl _ _⟩
        case o3 =>
          refine LnOp.line 0 rfl rfl (fun A va w' hF hT hJ hu hd => ?_)
          have e1 : A.eval (.tmp 26) = .agg #[.int .i64 x.table, .slice KA x.key.length KC, .bool x.gone, .slice VA x.val.length VC] := (hT 26 2 (by simp) rfl).trans (hd ⟨2, .data⟩ (by simp) rfl rfl)
          have hJ0 : Below (w5).heap.size (w5) w' := hJ
          refine wp_callFn rfl eA (by simp only [List.map_toArray, List.map_cons, List.map_nil, e1]) ((dAlone_any w' (hx0.below (q.trans (hJ0.mono q.size))) hx1 hx2).mono ?_)
          rintro e w2 ⟨v2, rfl, ⟨ka, kc, va2, vc, rfl, hk2, hv2, ht2⟩, hb2⟩
          have hR : Elt.wr.R (fun k => w5.heap.size ≤ k ∧ k < w2.heap.size) w2 x (wrC x (.slice ka x.key.length kc) (.slice va2 x.val.length vc)) := ⟨_, _, rfl, hk2.weak fun k hk => ⟨Nat.le_trans hJ0.size hk.1, hk.2⟩, hv2.weak fun k hk => ⟨Nat.le_trans hJ0.size hk.1, hk.2⟩, ht2⟩
          exact ⟨_, rfl, _, rfl, ⟨hJ0.trans (hb2.mono hJ0.size), _, rfl, hR⟩, (Twb.refl (r := Value.ownBlock (.slice wa d.writes.length wc)) (b := BO)).below hb2⟩
        case o4 =>
          refine LnOp.side rfl (by kernel_rfl) (fun A va w' k hF hT hk hJ hb hu hp hd => ?_)
          have x1 : A.eval (.tmp 27) = va 3 := hT 27 3 (by simp) rfl
          obtain rfl : k = 1 := by
            have h1 := hp ⟨3, .data⟩ (by simp) rfl 0 rfl
            have h2 := hb 1 5 rfl (by kernel_rfl)
            omega
          obtain ⟨hJ0, us, eus, hR⟩ := hJ
          have hb1 : Below w'.heap.size w' (w'.alloc (.cells us.toArray 28)) := (Below.refl _ _).alloc (Nat.le_refl _) _
          exact wp_buildOne wrP rfl x1 eus (Elt.len _ hR) (by decide) (by decide) ⟨_, rfl, ⟨_, us, rfl, hJ0.size, by simp only [World.alloc, Array.getElem?_push_size], Elt.weak _ (Elt.below hR hb1) fun k hk => ⟨hk.1, Nat.lt_of_lt_of_le hk.2 hb1.size⟩⟩, hb1⟩
        case o5 =>
          refine LnOp.line 1 rfl rfl (fun A va w' hF hT hJ hu hd => ?_)
          have e1 : A.eval (.tmp 25) = .slice wa d.writes.length wc := (hT 25 1 (by simp) rfl).trans (hd ⟨1, .data⟩ (by simp) rfl rfl)
          have x2 : A.eval (.tmp 28) = va 4 := hT 28 4 (by simp) rfl
          have y2 := hd ⟨4, .data⟩ (by simp) rfl rfl
          have hJ' := hJ
          obtain ⟨hJ0, _⟩ := hJ
          obtain ⟨g, us, eg, hg0, hgc, hgR⟩ : ∃ g, ∃ us : List Value, va 4 = .slice (some ⟨g, 0, none⟩) 1 1 ∧ (w5).heap.size ≤ g ∧ w'.heap[g]? = some (.cells us.toArray 28 (0, 0)) ∧ Elt.R Elt.wr (fun k => (w5).heap.size ≤ k ∧ k < w'.heap.size) w' x us := y2
          refine wp_appendL (E := Elt.but Elt.wr (BO)) (ys := [x]) wrP rfl e1 (hOw.below hJ0) (x2.trans eg) (fun j u hj => by rw [Addr.add_lit, World.cell?, hgc]; simpa using hj) (Flat.single (Elt.weak Elt.wr hgR fun k hk => ⟨hk, fun e => by have := hk.1; have := hBO.lt; omega⟩)) (fun k hk => ⟨Nat.le_trans hlo hk.1, hk.2, fun e => by have := hrW k e.symm; omega⟩) (Nat.le_trans hlo hJ0.size) (fun ad7 k7 cap7 w2 h2 hg h3 => ?_) (by simp; omega)
          obtain rfl : k7 = (d.writes ++ [x]).length := h2.len
          exact ⟨_, rfl, PshJ.app hJ' hBO h2 hg hbr h3, (Twb.refl (b := BO)).row hg⟩
        case o6 =>
          refine LnOp.side rfl (by kernel_rfl) (fun A va w' k hF hT hk hJ hb hu hp hd => ?_)
          have e1 : A.eval (.tmp 6) = .pointer (some ⟨BO, 0, none⟩) := hF 6 rfl
          exact wp_fieldN dlS rfl (e1) (by omega) ⟨_, rfl, rfl, Below.refl _ _⟩
        case o7 =>
          refine LnOp.line 2 rfl rfl (fun A va w' hF hT hJ hu hd => ?_)
          have e1 : A.eval (.tmp 30) = .pointer (some ⟨BO, 0 + 0, none⟩) := (hT 30 6 (by simp) rfl).trans (hd ⟨6, .data⟩ (by simp) rfl rfl)
          have x2 : A.eval (.tmp 29) = va 5 := hT 29 5 (by simp) rfl
          have hJ' := hJ
          obtain ⟨hJ0, ad7, c7, es, hOs, hBs, hn7⟩ := hJ
          refine wp_boxSet (j := 0) rfl (by kernel_rfl) e1 (x2.trans es) rfl rfl hBs (by simp) (fun w2 hg hB2 => ?_)
          exact ⟨_, rfl, PshJ.sto hJ' hOs hn7 hg hB2, (Twb.refl (r := Value.ownBlock (.slice wa d.writes.length wc))).box hg⟩
        case fin =>
          intro vs1 W9 hJ hG
          obtain ⟨htw, ad9, c9, hO9, hB9, hn9⟩ := hJ
          have g0 : vs1 0 = .pointer (some ⟨BO, 0 + 0, none⟩) := hG 0 (by decide) rfl
          have g1 : vs1 1 = .slice wa d.writes.length wc := hG 1 (by decide) rfl
          have g2 : vs1 2 = .agg #[.int .i64 x.table, .slice KA x.key.length KC, .bool x.gone, .slice VA x.val.length VC] := hG 2 (by decide) rfl
          have g6 : vs1 6 = .pointer (some ⟨BO, 0 + 0, none⟩) := hG 6 (by decide) rfl
          clear hG
          simp only [putAll, g0, g1, g2, g6]
          clear g0 g1 g2 g6
          go_simp
          have hBZ9 := htw.boxN hBZ (fun e => by have := hOw0 _ e.symm; omega) (by omega)
          have q9 : Below w.heap.size w W9 := htw.belowB q (fun k hk => by have := hOw0 k hk; omega) (by omega)
          have hap := hOm.apart2 (by decide) hOw
          have hOm9 := hOm.num2 (w' := W9) fun g hg => htw.block g (by have := hOm0 g hg; omega) (fun e => by
            rcases hap with h | h
            · rw [hg] at h; cases h
            · exact h (by rw [hg, e])) (by have := hOm0 g hg; omega)
          replace hO9 := hO9.unbut
          obtain ⟨L9, hL9⟩ : ∃ L9, L9 = (d.writes ++ [x]).length := ⟨_, rfl⟩
          simp only [List.set_cons_zero] at hB9
          rw [← hL9] at hO9 hB9
          replace hL9 := Lib.hid hL9
          have o0 := hB9.cell (i := 0) rfl
          have o1 := hB9.cell (i := 1) rfl
          clear hOw hOm hBO htw
          go_wp2_with (first | (refine wpList_boxStore (us := [.slice ad9 L9 c9, .slice ma d.marks.length mc]) (by kernel_rfl) rfl rfl rfl rfl rfl rfl hBZ9 rfl ?_; intro wd hgd hBd) | fail)
          have d0 := hBd.cell (i := 0) rfl
          have d1 := hBd.cell (i := 1) rfl
          obtain ⟨fs, hu, _⟩ := dlS.hu
          refine bodyPost_ret (v := .tuple #[.agg #[.slice ad9 L9 c9, .slice ma d.marks.length mc], .int .i64 0]) (by simp [results, Try.results10, go_sem, loadVar, isAgg, run_underlying hu, run_sizeOf' dlS.hs, loadCellsFrom, Addr.add, d0, d1]) rfl ?_
          rw [DlEnd, HK.out]
          have hL := hL9.out
          subst hL
          exact ⟨_, rfl, ⟨ad9, c9, ma, mc, rfl, (hO9.other hgd (by omega) (by omega)).rdS fun k hk hl => ⟨by omega, hl⟩, (hOm9.other hgd (by omega) (by omega)).rdS fun k hk hl => ⟨by omega, hl⟩⟩, q9.grown hgd q9.size fun k e => by injection e with e; omega⟩
    · have dm : decide (mayW x) = false := decide_eq_false hmay
      have HK := Lib.hid (show putD d x = (d, 1) by unfold putD; rw [if_neg (fun h => hmay h.2)])
      have o0 := hBO.cell (i := 0) rfl
      have o1 := hBO.cell (i := 1) rfl
      go_wp2_with (first | (refine wpList_boxStore (us := [.slice wa d.writes.length wc, .slice ma d.marks.length mc]) (by kernel_rfl) rfl rfl rfl rfl rfl rfl hBZ rfl ?_; intro wd hgd hBd) | fail)
      have d0 := hBd.cell (i := 0) rfl
      have d1 := hBd.cell (i := 1) rfl
      obtain ⟨fs, hu, _⟩ := dlS.hu
      refine bodyPost_ret (v := .tuple #[.agg #[.slice wa d.writes.length wc, .slice ma d.marks.length mc], .int .i64 1]) (by simp [results, Try.results10, go_sem, loadVar, isAgg, run_underlying hu, run_sizeOf' dlS.hs, loadCellsFrom, Addr.add, d0, d1]) rfl ?_
      rw [DlEnd, HK.out]
      exact ⟨_, rfl, ⟨wa, wc, ma, mc, rfl, (hOw.unbut.other hgd (by omega) (by omega)).rdS fun k hk hl => ⟨by omega, hl⟩, (hOm.other hgd (by omega) (by omega)).rdS fun k hk hl => ⟨by omega, hl⟩⟩, q.grown hgd q.size fun k e => by injection e with e; omega⟩
  · have dok : decide (okD d) = false := decide_eq_false hok
    have HK := Lib.hid (show putD d x = (d, 1) by unfold putD; rw [if_neg (fun h => hok h.1)])
    have z4 := hb4.size
    have o0 := hBO.cell (i := 0) rfl
    have o1 := hBO.cell (i := 1) rfl
    go_wp2_with (first | (refine wpList_boxStore (us := [.slice wa d.writes.length wc, .slice ma d.marks.length mc]) (by kernel_rfl) rfl rfl rfl rfl rfl rfl hBZ rfl ?_; intro wd hgd hBd) | fail)
    have d0 := hBd.cell (i := 0) rfl
    have d1 := hBd.cell (i := 1) rfl
    obtain ⟨fs, hu, _⟩ := dlS.hu
    refine bodyPost_ret (v := .tuple #[.agg #[.slice wa d.writes.length wc, .slice ma d.marks.length mc], .int .i64 1]) (by simp [results, Try.results10, go_sem, loadVar, isAgg, run_underlying hu, run_sizeOf' dlS.hs, loadCellsFrom, Addr.add, d0, d1]) rfl ?_
    rw [DlEnd, HK.out]
    exact ⟨_, rfl, ⟨wa, wc, ma, mc, rfl, (hOw.unbut.other hgd (by omega) (by omega)).rdS fun k hk hl => ⟨by omega, hl⟩, (hOm.other hgd (by omega) (by omega)).rdS fun k hk hl => ⟨by omega, hl⟩⟩, q.grown hgd q.size fun k e => by injection e with e; omega⟩
end Go.Proofs.Ytjbdkhddnblieaa
namespace Go.Proofs.Ytjbdkhddnblieaa
open Go.RowKit Go.Shelf
set_option maxRecDepth 100000 in
set_option maxHeartbeats 8000000 in
theorem dMark_any (w : World) {S : Nat → Prop} {v : Value} {d : Dl} (h : RdDl S w v d) (hs : smD d) :
    Calls Try.prog 12 #[v] w (DlEnd w (markD d)) := by
  have hd := h
  obtain ⟨a, c, a2, c2, rfl, hw, hm⟩ := h
  obtain ⟨W0, hW, q, bn, bz, hsz⟩ := boxes2 w 25 25 [.slice a d.writes.length c, .slice a2 d.marks.length c2] [.slice none 0 0, .slice none 0 0]
  have hs1 := hs.1
  have hs2 := hs.2.1
  go_enter Try.func12, Try.ntmps12
  go_upto_region 1 with (fail)
  rw [show (w.alloc (.cells #[.slice a d.writes.length c, .slice a2 d.marks.length c2] 25)).alloc (.cells #[.slice none 0 0, .slice none 0 0] 25) = W0 from hW.symm]
  clear hW
  have b0 := bn.cell (i := 0) rfl
  have b1 := bn.cell (i := 1) rfl
  go_wp2_with fail
  refine (dCopied_any W0 (hd.below q) hs).mono ?_
  rintro e w1 ⟨_, rfl, ⟨wa, wc, ma, mc, M, hM0, hM1, rfl, hOw, hOm, hMm⟩, hb1⟩
  have q1 := q.trans (hb1.mono q.size)
  have z1 := hb1.size
  have hOw0 := hOw.block_lt
  have hOm0 := hOm.block_lt
  replace hOw := hOw.but (b := w1.heap.size) (fun k _ hk => by omega)
  replace bn := bn.below hb1 bn.lt
  replace bz := bz.below hb1 bz.lt
  clear b0 b1
  go_upto_region 2 with (first | (refine wpList_boxNew (vs := [.slice none 0 0, .slice none 0 0]) (by kernel_rfl) rfl rfl ?_; intro w2 hb2 hB2) | (refine wpList_boxStore (us := [.slice wa d.writes.length wc, .slice ma d.marks.length mc]) (by kernel_rfl) rfl rfl rfl rfl rfl rfl hB2 rfl ?_; intro w3 hg3 hBO) | fail)
  go_simp
  have qb3 : Below w1.heap.size w1 w3 := hb2.grown hg3 hb2.size fun k hk => by injection hk with hk; omega
  have zO := hBO.lt
  obtain ⟨BO, eBO⟩ : ∃ BO, BO = w1.heap.size := ⟨_, rfl⟩
  rw [← eBO] at hBO zO hOw0 hOm0 hOw hM1
  rw [← eBO]
  have zBO : W0.heap.size ≤ BO := by omega
  replace q := q1.trans (qb3.mono q1.size)
  replace bn := bn.below qb3 bn.lt
  have hBZ := bz.below qb3 bz.lt
  replace hOw := hOw.below qb3
  replace hOm := hOm.below qb3
  clear hb2 hB2 hg3 qb3 q1 eBO bz hb1 z1
  have b0 := bn.cell (i := 0) rfl
  have b1 := bn.cell (i := 1) rfl
  go_wp2_with fail
  refine (dCheck_any w3 (hd.below q)).mono ?_
  rintro e w4 ⟨rfl, hb4⟩
  replace q := q.trans (hb4.mono q.size)
  replace bn := bn.below hb4 bn.lt
  replace hBO := hBO.below hb4 hBO.lt
  replace hBZ := hBZ.below hb4 hBZ.lt
  replace hOw := hOw.below hb4
  replace hOm := hOm.below hb4
  have z4 := hb4.size
  clear b0 b1 hb4
  by_cases hok : okD d
  · have dok : decide (okD d) = true := decide_eq_true hok
    have b0 := bn.cell (i := 0) rfl
    have b1 := bn.cell (i := 1) rfl
    by_cases hfull : d.marks.length = 4
    · have d20 : ((d.marks.length : Int) == 4) = true := beq_iff_eq.2 (by omega)
      have HK := Lib.hid (show markD d = (d, 80) by unfold markD; rw [if_pos hok, if_pos hfull])
      clear hfull
      have o0 := hBO.cell (i := 0) rfl
      have o1 := hBO.cell (i := 1) rfl
      go_wp2_with (first | (refine wpList_boxStore (us := [.slice wa d.writes.length wc, .slice ma d.marks.length mc]) (by kernel_rfl) rfl rfl rfl rfl rfl rfl hBZ rfl ?_; intro wd hgd hBd) | fail)
      have d0 := hBd.cell (i := 0) rfl
      have d1 := hBd.cell (i := 1) rfl
      obtain ⟨fs, hu, _⟩ := dlS.hu
      refine bodyPost_ret (v := .tuple #[.agg #[.slice wa d.writes.length wc, .slice ma d.marks.length mc], .int .i64 80]) (by simp [results, Try.results12, go_sem, loadVar, isAgg, run_underlying hu, run_sizeOf' dlS.hs, loadCellsFrom, Addr.add, d0, d1]) rfl ?_
      rw [DlEnd, HK.out]
      exact ⟨_, rfl, ⟨wa, wc, ma, mc, rfl, (hOw.unbut.other hgd (by omega) (by omega)).rdS fun k hk hl => ⟨by omega, hl⟩, (hOm.other hgd (by omega) (by omega)).rdS fun k hk hl => ⟨by omega, hl⟩⟩, q.grown hgd q.size fun k e => by injection e with e; omega⟩
    · have d20 : ((d.marks.length : Int) == 4) = false := beq_eq_false_iff_ne.2 (by omega)
      have HK := Lib.hid (show markD d = (⟨d.writes, d.marks ++ [(d.writes.length : Int)]⟩, 0) by unfold markD; rw [if_pos hok, if_neg hfull])
      have o0 := hBO.cell (i := 0) rfl
      have o1 := hBO.cell (i := 1) rfl
      have hap := hOm.apart2 (by decide) hOw
      have hal : Below w4.heap.size w4 (w4.alloc (.cells #[.int .i64 (d.writes.length : Int)] 3)) := (Below.refl _ _).alloc (Nat.le_refl _) _
      have hmr : Value.ownBlock (.slice ma d.marks.length mc) ≠ some BO := fun e => by have := hOm0 _ e; omega
      have hlo : W0.heap.size ≤ w4.heap.size + 1 := by omega
      go_upto_region 7 with (first
        | (at_builtin; refine wpList_appendL (E := Elt.int) (ys := [(d.writes.length : Int)]) inP rfl rfl rfl (hOm.below hal) rfl (cells_new w4 [.int .i64 (d.writes.length : Int)] 3) (Flat.single (E := Elt.int) (S := fun _ => False) ⟨rfl, by unfold W64; omega⟩) (fun k hk => hk.elim) (by simp; omega) ?_ (by simp; omega); intro ad9 L9 c9 w6 hO9 hg6 h36)
        | (refine wpList_boxSet (j := 1) rfl rfl rfl (by kernel_rfl) rfl rfl rfl rfl ((hBO.below hal hBO.lt).other hg6 hmr) (by simp) ?_; intro w7 hg7 hB7)
        | fail)
      go_simp
      have hL := hO9.len
      subst hL
      have hr6 : ∀ g, Value.ownBlock (.slice ma d.marks.length mc) = some g → W0.heap.size ≤ g ∧ g < M ∧ g < BO := fun g hg => by have := hOm0 g hg; have := hMm g hg; omega
      have hsz4 : (w4.alloc (.cells #[.int .i64 (d.writes.length : Int)] 3)).heap.size = w4.heap.size + 1 := World.size_alloc _ _
      have hn9 : Value.ownBlock (.slice ad9 (d.marks ++ [(d.writes.length : Int)]).length c9) ≠ some BO := by
        rcases h36 with e | e
        · rw [e]; exact hmr
        · rw [e, hsz4]; intro e2; injection e2 with e2; omega
      have hOw6 : OwnL Elt.wr 28 M M w6 (.slice wa d.writes.length wc) d.writes := by
        refine ((hOw.below hal).unbut).kept hg6.size fun k hk hl => hg6.block k hl fun e => ?_
        have := hr6 k e.symm
        omega
      have hOw7 : OwnL (Elt.but Elt.wr BO) 28 M M w7 (.slice wa d.writes.length wc) d.writes := by
        have hb6 : OwnL (Elt.but Elt.wr BO) 28 M M w6 (.slice wa d.writes.length wc) d.writes := by
          refine (hOw.below hal).kept hg6.size fun k hk hl => hg6.block k hl fun e => ?_
          have := hr6 k e.symm
          omega
        exact hb6.butOther hg7 fun e => by have := hOw0 _ e; omega
      have hO97 : OwnL Elt.int 3 W0.heap.size W0.heap.size w7 (.slice ad9 (d.marks ++ [(d.writes.length : Int)]).length c9) (d.marks ++ [(d.writes.length : Int)]) := hO9.num2 fun g hg => hg7.block g ((hO9.block_lt g hg).2) fun e => by injection e with e; exact hn9 (by rw [hg, e])
      have hz6 := hg6.size
      have hz7 := hg7.size
      have q7 : Below w.heap.size w w7 := ((q.trans (hal.mono q.size)).grown hg6 (by omega) (fun k e => by have := hr6 k e; omega)).grown hg7 (by omega) (fun k e => by injection e with e; omega)
      have hBZ7 : BoxN w7 (w.heap.size + 1) 25 [.slice none 0 0, .slice none 0 0] := ((hBZ.below hal hBZ.lt).other hg6 (fun e => by have := hr6 _ e; omega)).other hg7 (by simp; omega)
      obtain ⟨L9, hL9⟩ : ∃ L9, L9 = (d.marks ++ [(d.writes.length : Int)]).length := ⟨_, rfl⟩
      simp only [List.set_cons_zero, List.set_cons_succ] at hB7
      rw [← hL9] at hO97 hB7
      rw [← hL9]
      replace hL9 := Lib.hid hL9
      clear o0 o1 hOw hOw6 hO9 hn9 hOm
      have o0 := hB7.cell (i := 0) rfl
      have o1 := hB7.cell (i := 1) rfl
      go_wp2_with (first | (refine wpList_boxStore (us := [.slice wa d.writes.length wc, .slice ad9 L9 c9]) (by kernel_rfl) rfl rfl rfl rfl rfl rfl hBZ7 rfl ?_; intro wd hgd hBd) | fail)
      have d0 := hBd.cell (i := 0) rfl
      have d1 := hBd.cell (i := 1) rfl
      obtain ⟨fs, hu, _⟩ := dlS.hu
      refine bodyPost_ret (v := .tuple #[.agg #[.slice wa d.writes.length wc, .slice ad9 L9 c9], .int .i64 0]) (by simp [results, Try.results12, go_sem, loadVar, isAgg, run_underlying hu, run_sizeOf' dlS.hs, loadCellsFrom, Addr.add, d0, d1]) rfl ?_
      rw [DlEnd, HK.out]
      have hL := hL9.out
      subst hL
      exact ⟨_, rfl, ⟨wa, wc, ad9, c9, rfl, (hOw7.unbut.other hgd (by omega) (by omega)).rdS fun k hk hl => ⟨by omega, hl⟩, (hO97.other hgd (by omega) (by omega)).rdS fun k hk hl => ⟨by omega, hl⟩⟩, q7.grown hgd q7.size fun k e => by injection e with e; omega⟩
  · have dok : decide (okD d) = false := decide_eq_false hok
    have HK := Lib.hid (show markD d = (d, 1) by unfold markD; rw [if_neg hok])
    have o0 := hBO.cell (i := 0) rfl
    have o1 := hBO.cell (i := 1) rfl
    go_wp2_with (first | (refine wpList_boxStore (us := [.slice wa d.writes.length wc, .slice ma d.marks.length mc]) (by kernel_rfl) rfl rfl rfl rfl rfl rfl hBZ rfl ?_; intro wd hgd hBd) | fail)
    have d0 := hBd.cell (i := 0) rfl
    have d1 := hBd.cell (i := 1) rfl
    obtain ⟨fs, hu, _⟩ := dlS.hu
    refine bodyPost_ret (v := .tuple #[.agg #[.slice wa d.writes.length wc, .slice ma d.marks.length mc], .int .i64 1]) (by simp [results, Try.results12, go_sem, loadVar, isAgg, run_underlying hu, run_sizeOf' dlS.hs, loadCellsFrom, Addr.add, d0, d1]) rfl ?_
    rw [DlEnd, HK.out]
    exact ⟨_, rfl, ⟨wa, wc, ma, mc, rfl, (hOw.unbut.other hgd (by omega) (by omega)).rdS fun k hk hl => ⟨by omega, hl⟩, (hOm.other hgd (by omega) (by omega)).rdS fun k hk hl => ⟨by omega, hl⟩⟩, q.grown hgd q.size fun k e => by injection e with e; omega⟩
end Go.Proofs.Ytjbdkhddnblieaa
namespace Go.Proofs.Ytjbdkhddnblieaa
open Go.RowKit Go.Shelf
def BakJ (W : World) (bz : Nat) (d : Dl) : List Value → World → Prop
  | [], V => Below W.heap.size W V
  | [v], V => Below W.heap.size W V ∧ RdDl (fun k => W.heap.size ≤ k ∧ k < V.heap.size) V v d
  | _, V => W.grownBy V (some bz) ∧ ∃ a c a2 c2, BoxN V bz 25 [.slice a d.writes.length c, .slice a2 d.marks.length c2] ∧ RdL Elt.wr (fun k => W.heap.size ≤ k ∧ k < V.heap.size) V (.slice a d.writes.length c) d.writes ∧ RdL Elt.int (fun k => W.heap.size ≤ k ∧ k < V.heap.size) V (.slice a2 d.marks.length c2) d.marks
theorem BakJ.below {W : World} {bz : Nat} {d : Dl} : ∀ (l : List Value) (V V' : World), BakJ W bz d l V → Below V.heap.size V V' → BakJ W bz d l V'
  | [], _, _, h, hb => Below.trans h (hb.mono (Below.size h))
  | [_], _, _, ⟨h, h1⟩, hb => ⟨h.trans (hb.mono h.size), (h1.below hb).weak fun _ hk => ⟨hk.1, Nat.lt_of_lt_of_le hk.2 hb.size⟩⟩
  | _ :: _ :: _, _, _, ⟨h, a, c, a2, c2, h0, h1, h2⟩, hb => ⟨grown_trans h (grown_below' hb _), a, c, a2, c2, h0.below hb h0.lt, (h1.below hb).weak fun _ hk => ⟨hk.1, Nat.lt_of_lt_of_le hk.2 hb.size⟩, (h2.below hb).weak fun _ hk => ⟨hk.1, Nat.lt_of_lt_of_le hk.2 hb.size⟩⟩
theorem BakJ.grown {W : World} {bz : Nat} {d : Dl} : ∀ {l : List Value} {V : World}, BakJ W bz d l V → W.grownBy V (some bz)
  | [], _, h => grown_below2 h rfl _
  | [_], _, ⟨h, _⟩ => grown_below2 h rfl _
  | _ :: _ :: _, _, ⟨h, _⟩ => h
def bRd {α : Type} (E : Elt α) (w : World) (bz : Nat) (h : w.heap.size ≤ bz) (xs : List α) : SGn (fun A B => A.grownBy B (some bz)) :=
  ⟨fun V v => ∃ a c, v = .slice a xs.length c ∧ RdL E (· < w.heap.size) V (.slice a xs.length c) xs, fun _ _ _ ⟨a, c, e, hr⟩ hb => ⟨a, c, e, hr.below hb⟩,
    fun _ _ _ ⟨a, c, e, hr⟩ hk => ⟨a, c, e, (hr.fit.keep fun k hh => hk.block k hh.2 (fun e => by injection e with e; have := hh.1; omega)).weak fun _ hh => hh.1⟩⟩
def bDl (w : World) (bz : Nat) (h : w.heap.size ≤ bz) (d : Dl) : SGn (fun A B => A.grownBy B (some bz)) :=
  ⟨fun V v => RdDl (· < w.heap.size) V v d, fun _ _ _ hr hb => hr.below hb,
    fun _ _ _ ⟨a, c, a2, c2, e, h1, h2⟩ hk => ⟨a, c, a2, c2, e, (h1.fit.keep fun k hh => hk.block k hh.2 (fun e => by injection e with e; have := hh.1; omega)).weak fun _ hh => hh.1, (h2.fit.keep fun k hh => hk.block k hh.2 (fun e => by injection e with e; have := hh.1; omega)).weak fun _ hh => hh.1⟩⟩
set_option maxRecDepth 100000 in
set_option maxHeartbeats 8000000 in
theorem dBack_any (w : World) {S : Nat → Prop} {v : Value} {d : Dl} {i : Int} (h : RdDl S w v d) (hs : smD d) :
    Calls Try.prog 14 #[v, .int .i64 i] w (DlEnd w (backD d i)) := by
  replace h : RdDl (· < w.heap.size) w v d := by
    obtain ⟨a, c, a2, c2, e, h1, h2⟩ := h
    exact ⟨a, c, a2, c2, e, h1.fit.weak fun _ hk => hk.2, h2.fit.weak fun _ hk => hk.2⟩
  have hd := h
  obtain ⟨a, c, a2, c2, rfl, hw, hm⟩ := h
  obtain ⟨W0, hW, q, bn, bz, hsz⟩ := boxes2 w 25 25 [.slice a d.writes.length c, .slice a2 d.marks.length c2] [.slice none 0 0, .slice none 0 0]
  have eC : ∀ args w, (callFunc 29 args).run Try.prog w = .ok (.enter 29 args) w := enters_of Try.func29 (by kernel_rfl) rfl
  have hs1 := hs.1
  have hsm := hs.2.1
  go_enter Try.func14, Try.ntmps14
  go_upto_region 1 with (fail)
  rw [show (w.alloc (.cells #[.slice a d.writes.length c, .slice a2 d.marks.length c2] 25)).alloc (.cells #[.slice none 0 0, .slice none 0 0] 25) = W0 from hW.symm]
  clear hW
  have b0 := bn.cell (i := 0) rfl
  have b1 := bn.cell (i := 1) rfl
  go_wp2_with fail
  refine (dCheck_any W0 (hd.below q)).mono ?_
  rintro e w4 ⟨rfl, hb4⟩
  replace q := q.trans (hb4.mono q.size)
  replace bn := bn.below hb4 bn.lt
  replace bz := bz.below hb4 bz.lt
  have z4 := hb4.size
  have hsz' : w.heap.size + 1 + 1 ≤ w4.heap.size := by omega
  clear b0 b1 hb4 hsz z4
  have b0 := bn.cell (i := 0) rfl
  have b1 := bn.cell (i := 1) rfl
  by_cases hok : okD d
  · have dok : decide (okD d) = true := decide_eq_true hok
    by_cases hi0 : i < 0
    · have di : decide (i < 0) = true := decide_eq_true hi0
      have HK := Lib.hid (show backD d i = (d, 1) by unfold backD; rw [if_neg (fun h => by omega)])
      have HKx := HK
      go_wp2_with fail
      refine (dCopied_any w4 (hd.below q) hs).mono ?_
      rintro e w5 ⟨_, rfl, ho, hb5⟩
      obtain ⟨wa, wc, ma, mc, rfl, h7, h8⟩ := ho.rd
      have z5 := hb5.size
      have q5 := q.trans (hb5.mono q.size)
      have hBZ := bz.below hb5 bz.lt
      go_wp2_with (first | (refine wpList_boxStore (us := [.slice wa d.writes.length wc, .slice ma d.marks.length mc]) (by kernel_rfl) rfl rfl rfl rfl rfl rfl hBZ rfl ?_; intro wd hgd hBd) | fail)
      have d0 := hBd.cell (i := 0) rfl
      have d1 := hBd.cell (i := 1) rfl
      obtain ⟨fs, hu, _⟩ := dlS.hu
      refine bodyPost_ret (v := .tuple #[.agg #[.slice wa d.writes.length wc, .slice ma d.marks.length mc], .int .i64 1]) (by simp [results, Try.results14, go_sem, loadVar, isAgg, run_underlying hu, run_sizeOf' dlS.hs, loadCellsFrom, Addr.add, d0, d1]) rfl ?_
      rw [DlEnd, HKx.out]
      exact ⟨_, rfl, ⟨wa, wc, ma, mc, rfl, (h7.keep fun k hk => hgd.block k hk.2 fun e => by injection e with e; omega).weak fun k hk => ⟨by omega, Nat.lt_of_lt_of_le hk.2 hgd.size⟩, (h8.keep fun k hk => hgd.block k hk.2 fun e => by injection e with e; omega).weak fun k hk => ⟨by omega, Nat.lt_of_lt_of_le hk.2 hgd.size⟩⟩, q5.grown hgd q5.size fun k e => by injection e with e; omega⟩
    · have di : decide (i < 0) = false := decide_eq_false hi0
      by_cases hi1 : i < (d.marks.length : Int)
      · have dj : decide ((d.marks.length : Int) ≤ i) = false := decide_eq_false (by omega)
        obtain ⟨n, rfl⟩ : ∃ n : Nat, i = (n : Int) := ⟨i.toNat, by omega⟩
        have hn : n < d.marks.length := by omega
        obtain ⟨mb, mo, rfl, hmb, c0, hmi⟩ := hm.num n hn
        have hmk := okM_get hok.2.2.2 hn
        obtain ⟨m, hm0⟩ : ∃ m : Nat, (m : Int) = d.marks[n] := ⟨d.marks[n].toNat, by omega⟩
        have HK := Lib.hid (show backD d (n : Int) = (⟨d.writes.take m, d.marks.take (n + 1)⟩, 0) by
          unfold backD
          rw [if_pos ⟨hok, by omega, hi1⟩, Int.toNat_natCast, List.getD_eq_getElem?_getD, List.getElem?_eq_getElem hn, Option.getD_some, ← hm0, Int.toNat_natCast])
        rw [← hm0] at c0 hmk
        have hmle : m ≤ d.writes.length := by omega
        have hml : (d.writes.take m).length = m := by rw [List.length_take]; omega
        have hnl : (d.marks.take (n + 1)).length = n + 1 := by rw [List.length_take]; omega
        have hs2 : smD ⟨d.writes.take m, d.marks.take (n + 1)⟩ := ⟨by show (d.writes.take m).length ≤ _; omega, by show (d.marks.take (n + 1)).length ≤ _; omega, fun x hx => hs.2.2 x (List.mem_of_mem_take hx)⟩
        have hn4 : n ≤ 1000000 := by omega
        have hcl := hw.len.2.1
        have hcm := hm.len.2.1
        clear hm0
        go_upto_region 3 with (fail)
        clear b0 b1
        refine wp_region_lnl (K := fun A B => A.grownBy B (some (w.heap.size + 1))) (by kernel_rfl) (by kernel_rfl) [14, 15] (by kernel_rfl) [lEq (.pointer (some ⟨w.heap.size, 0 + 0, none⟩)), lEq (.slice a d.writes.length c), lEq (.pointer (some ⟨w.heap.size, 0 + 1, none⟩)), lEq (.slice (some ⟨mb, mo, none⟩) d.marks.length c2), lEq (.int .i64 (n : Int)), lEq (.pointer (some ⟨mb, mo + n * 1, none⟩)), lEq (.int .i64 (m : Int)), bRd Elt.wr w (w.heap.size + 1) (by omega) (d.writes.take m), lEq (.pointer (some ⟨w.heap.size, 0 + 1, none⟩)), lEq (.slice (some ⟨mb, mo, none⟩) d.marks.length c2), lEq (.int .i64 (n : Int)), lEq (.int .i64 ((n : Int) + 1)), bRd Elt.int w (w.heap.size + 1) (by omega) (d.marks.take (n + 1)), bDl w (w.heap.size + 1) (by omega) ⟨d.writes.take m, d.marks.take (n + 1)⟩, lAny, lAny, lEq (.int .i64 0)] (BakJ w4 (w.heap.size + 1) ⟨d.writes.take m, d.marks.take (n + 1)⟩) BakJ.below (show Below w4.heap.size w4 w4 from Below.refl _ _)
          ⟨?o0, ?o1, ?o2, ?o3, ?o4, ?o5, ?o6, ?o7, ?o8, ?o9, ?o10, ?o11, ?o12, ?o13, ?o14, ?o15, ?o16, trivial⟩ ?fin
        case o0 =>
          refine LnOp.side rfl (by kernel_rfl) (fun A va w' k hF hT hk hJ hb hu hp hd => ?_)
          have e1 : A.eval (.tmp 2) = .pointer (some ⟨w.heap.size, 0, none⟩) := hF 2 rfl
          exact wp_fieldN dlS rfl (e1) (by omega) ⟨_, rfl, rfl, Below.refl _ _⟩
        case o1 =>
          refine LnOp.side rfl (by kernel_rfl) (fun A va w' k hF hT hk hJ hb hu hp hd => ?_)
          have e1 : A.eval (.tmp 22) = .pointer (some ⟨w.heap.size, 0 + 0, none⟩) := (hT 22 0 (by simp) rfl).trans (hd ⟨0, .data⟩ (by simp) rfl rfl)
          exact wp_ld_slice (e := 28) rfl (e1) (by kernel_rfl) ((bn.other (BakJ.grown hJ) (by simp)).cell (i := 0) rfl) ⟨_, rfl, rfl, Below.refl _ _⟩
        case o2 =>
          refine LnOp.side rfl (by kernel_rfl) (fun A va w' k hF hT hk hJ hb hu hp hd => ?_)
          have e1 : A.eval (.tmp 2) = .pointer (some ⟨w.heap.size, 0, none⟩) := hF 2 rfl
          exact wp_fieldN dlS rfl (e1) (by omega) ⟨_, rfl, rfl, Below.refl _ _⟩
        case o3 =>
          refine LnOp.side rfl (by kernel_rfl) (fun A va w' k hF hT hk hJ hb hu hp hd => ?_)
          have e1 : A.eval (.tmp 24) = .pointer (some ⟨w.heap.size, 0 + 1, none⟩) := (hT 24 2 (by simp) rfl).trans (hd ⟨2, .data⟩ (by simp) rfl rfl)
          exact wp_ld_slice (e := 3) rfl (e1) (by kernel_rfl) ((bn.other (BakJ.grown hJ) (by simp)).cell (i := 1) rfl) ⟨_, rfl, rfl, Below.refl _ _⟩
        case o4 =>
          refine LnOp.side rfl (by kernel_rfl) (fun A va w' k hF hT hk hJ hb hu hp hd => ?_)
          have e1 : A.eval (.tmp 1) = .int .i64 (n : Int) := hF 1 rfl
          exact BigFrame.wp_move _ rfl ⟨_, rfl, e1, Below.refl _ _⟩
        case o5 =>
          refine LnOp.side rfl (by kernel_rfl) (fun A va w' k hF hT hk hJ hb hu hp hd => ?_)
          have e1 : A.eval (.tmp 25) = .slice (some ⟨mb, mo, none⟩) d.marks.length c2 := (hT 25 3 (by simp) rfl).trans (hd ⟨3, .data⟩ (by simp) rfl rfl)
          have e2 : A.eval (.tmp 26) = .int .i64 (n : Int) := (hT 26 4 (by simp) rfl).trans (hd ⟨4, .data⟩ (by simp) rfl rfl)
          exact wp_ixN (e := 3) rfl (by kernel_rfl) (by kernel_rfl) (e1) (e2) rfl (by omega) ⟨_, rfl, rfl, Below.refl _ _⟩
        case o6 =>
          refine LnOp.side rfl (by kernel_rfl) (fun A va w' k hF hT hk hJ hb hu hp hd => ?_)
          have e1 : A.eval (.tmp 27) = .pointer (some ⟨mb, mo + n * 1, none⟩) := (hT 27 5 (by simp) rfl).trans (hd ⟨5, .data⟩ (by simp) rfl rfl)
          exact wp_ld_int (k := .i64) rfl (e1) (by kernel_rfl) ((by simpa using ((cell_keep ((BakJ.grown hJ).block mb (Nat.lt_of_lt_of_le hmb q.size) (fun e => by injection e with e; omega)) _).trans ((q.cell (p := ⟨mb, mo + n, none⟩) hmb).trans c0)))) ⟨_, rfl, rfl, Below.refl _ _⟩
        case o7 =>
          refine LnOp.side rfl (by kernel_rfl) (fun A va w' k hF hT hk hJ hb hu hp hd => ?_)
          have e1 : A.eval (.tmp 23) = .slice a d.writes.length c := (hT 23 1 (by simp) rfl).trans (hd ⟨1, .data⟩ (by simp) rfl rfl)
          have e2 : A.eval (.tmp 28) = .int .i64 (m : Int) := (hT 28 6 (by simp) rfl).trans (hd ⟨6, .data⟩ (by simp) rfl rfl)
          have hr := (hw.below q).keep fun k (hk : k < w.heap.size) => (BakJ.grown hJ).block k (Nat.lt_of_lt_of_le hk q.size) (fun e => by injection e with e; omega)
          exact wp_sliceL wrP.toLsP rfl e1 hr rfl (congrArg some e2) (run_bounds_h _ (by omega)) (fun ad' c' h' => ⟨_, rfl, ⟨ad', c', by rw [hml]; rfl, by rw [hml]; simpa using h'⟩, Below.refl _ _⟩) (by omega) (by omega)
        case o8 =>
          refine LnOp.side rfl (by kernel_rfl) (fun A va w' k hF hT hk hJ hb hu hp hd => ?_)
          have e1 : A.eval (.tmp 2) = .pointer (some ⟨w.heap.size, 0, none⟩) := hF 2 rfl
          exact wp_fieldN dlS rfl (e1) (by omega) ⟨_, rfl, rfl, Below.refl _ _⟩
        case o9 =>
          refine LnOp.side rfl (by kernel_rfl) (fun A va w' k hF hT hk hJ hb hu hp hd => ?_)
          have e1 : A.eval (.tmp 30) = .pointer (some ⟨w.heap.size, 0 + 1, none⟩) := (hT 30 8 (by simp) rfl).trans (hd ⟨8, .data⟩ (by simp) rfl rfl)
          exact wp_ld_slice (e := 3) rfl (e1) (by kernel_rfl) ((bn.other (BakJ.grown hJ) (by simp)).cell (i := 1) rfl) ⟨_, rfl, rfl, Below.refl _ _⟩
        case o10 =>
          refine LnOp.side rfl (by kernel_rfl) (fun A va w' k hF hT hk hJ hb hu hp hd => ?_)
          have e1 : A.eval (.tmp 1) = .int .i64 (n : Int) := hF 1 rfl
          exact BigFrame.wp_move _ rfl ⟨_, rfl, e1, Below.refl _ _⟩
        case o11 =>
          refine LnOp.side rfl (by kernel_rfl) (fun A va w' k hF hT hk hJ hb hu hp hd => ?_)
          have e1 : A.eval (.tmp 32) = .int .i64 (n : Int) := (hT 32 10 (by simp) rfl).trans (hd ⟨10, .data⟩ (by simp) rfl rfl)
          exact wp_addI rfl (e1) (rfl) (by omega) (by omega) ⟨_, rfl, rfl, Below.refl _ _⟩
        case o12 =>
          refine LnOp.side rfl (by kernel_rfl) (fun A va w' k hF hT hk hJ hb hu hp hd => ?_)
          have e1 : A.eval (.tmp 31) = .slice (some ⟨mb, mo, none⟩) d.marks.length c2 := (hT 31 9 (by simp) rfl).trans (hd ⟨9, .data⟩ (by simp) rfl rfl)
          have e2 : A.eval (.tmp 33) = .int .i64 ((n : Int) + 1) := (hT 33 11 (by simp) rfl).trans (hd ⟨11, .data⟩ (by simp) rfl rfl)
          have hr := (hm.below q).keep fun k (hk : k < w.heap.size) => (BakJ.grown hJ).block k (Nat.lt_of_lt_of_le hk q.size) (fun e => by injection e with e; omega)
          exact wp_sliceL inP.toLsP rfl e1 hr rfl (congrArg some e2) (run_bounds_h (h := n + 1) _ (by omega)) (fun ad' c' h' => ⟨_, rfl, ⟨ad', c', by rw [hnl]; rfl, by rw [hnl]; simpa using h'⟩, Below.refl _ _⟩) (by omega) (by omega)
        case o13 =>
          refine LnOp.side rfl (by kernel_rfl) (fun A va w' k hF hT hk hJ hb hu hp hd => ?_)
          have x1 : A.eval (.tmp 29) = va 7 := hT 29 7 (by simp) rfl
          have y1 := hd ⟨7, .data⟩ (by simp) rfl rfl
          have x2 : A.eval (.tmp 34) = va 12 := hT 34 12 (by simp) rfl
          have y2 := hd ⟨12, .data⟩ (by simp) rfl rfl
          obtain ⟨a7, c7, e7, h7⟩ := y1
          obtain ⟨a8, c8, e8, h8⟩ := y2
          exact wp_build2 dlS rfl (x1.trans e7) (x2.trans e8) rfl rfl ⟨_, rfl, ⟨a7, c7, a8, c8, rfl, h7, h8⟩, Below.refl _ _⟩
        case o14 =>
          refine LnOp.line 0 rfl rfl (fun A va w' hF hT hJ hu hd => ?_)
          have x1 : A.eval (.tmp 35) = va 13 := hT 35 13 (by simp) rfl
          have y1 := hd ⟨13, .data⟩ (by simp) rfl rfl
          have hJ0 : Below w4.heap.size w4 w' := hJ
          refine wp_callFn rfl eC (args := #[va 13]) (by simp only [List.map_toArray, List.map_cons, List.map_nil, x1]) ((dCopied_any w' y1 hs2).mono ?_)
          rintro e w2 ⟨v2, rfl, ho, hb2⟩
          exact ⟨_, rfl, _, rfl, ⟨hJ0.trans (hb2.mono hJ0.size), (ho.rd).weak fun k hk => ⟨Nat.le_trans hJ0.size hk.1, hk.2⟩⟩, grown_below' hb2 _⟩
        case o15 =>
          refine LnOp.line 1 rfl rfl (fun A va w' hF hT hJ hu hd => ?_)
          have e1 : A.eval (.tmp 4) = .pointer (some ⟨w.heap.size + 1, 0, none⟩) := hF 4 rfl
          have x2 : A.eval (.tmp 36) = va 14 := hT 36 14 (by simp) rfl
          obtain ⟨hJ0, a7, c7, a8, c8, e7, h7, h8⟩ := hJ
          refine wp_boxStore (us := [.slice a7 _ c7, .slice a8 _ c8]) (by kernel_rfl) rfl e1 (x2.trans e7) rfl (bz.below hJ0 (by omega)) rfl (fun w2 hg hB2 => ?_)
          exact ⟨_, rfl, ⟨(grown_below2 hJ0 rfl _).andThen hg (by simp), a7, c7, a8, c8, hB2, (h7.keep fun k hk => hg.block k hk.2 fun e => by injection e with e; omega).weak fun k hk => ⟨hk.1, Nat.lt_of_lt_of_le hk.2 hg.size⟩, (h8.keep fun k hk => hg.block k hk.2 fun e => by injection e with e; omega).weak fun k hk => ⟨hk.1, Nat.lt_of_lt_of_le hk.2 hg.size⟩⟩, hg⟩
        case o16 =>
          refine LnOp.side rfl (by kernel_rfl) (fun A va w' k hF hT hk hJ hb hu hp hd => ?_)
          exact BigFrame.wp_assign _ rfl ⟨_, rfl, rfl, Below.refl _ _⟩
        case fin =>
          intro vs1 W9 hJ hG
          obtain ⟨hg9, a9, c9, a8, c8, hB9, h7, h8⟩ := hJ
          have g16 : vs1 16 = .int .i64 0 := hG 16 (by decide) rfl
          clear hG
          simp only [putAll, g16]
          clear g16
          have d0 := hB9.cell (i := 0) rfl
          have d1 := hB9.cell (i := 1) rfl
          go_simp
          go_wp2_with fail
          obtain ⟨fs, hu, _⟩ := dlS.hu
          refine bodyPost_ret (v := .tuple #[.agg #[.slice a9 (d.writes.take m).length c9, .slice a8 (d.marks.take (n + 1)).length c8], .int .i64 0]) (by simp [results, Try.results14, go_sem, loadVar, isAgg, run_underlying hu, run_sizeOf' dlS.hs, loadCellsFrom, Addr.add, d0, d1]) rfl ?_
          rw [DlEnd, HK.out]
          exact ⟨_, rfl, ⟨a9, c9, a8, c8, rfl, h7.weak fun k hk => ⟨by omega, hk.2⟩, h8.weak fun k hk => ⟨by omega, hk.2⟩⟩, q.grown hg9 q.size fun k e => by injection e with e; omega⟩
      · have dj : decide ((d.marks.length : Int) ≤ i) = true := decide_eq_true (by omega)
        have HK := Lib.hid (show backD d i = (d, 1) by unfold backD; rw [if_neg (fun h => by omega)])
        have HKx := HK
        go_wp2_with fail
        refine (dCopied_any w4 (hd.below q) hs).mono ?_
        rintro e w5 ⟨_, rfl, ho, hb5⟩
        obtain ⟨wa, wc, ma, mc, rfl, h7, h8⟩ := ho.rd
        have z5 := hb5.size
        have q5 := q.trans (hb5.mono q.size)
        have hBZ := bz.below hb5 bz.lt
        go_wp2_with (first | (refine wpList_boxStore (us := [.slice wa d.writes.length wc, .slice ma d.marks.length mc]) (by kernel_rfl) rfl rfl rfl rfl rfl rfl hBZ rfl ?_; intro wd hgd hBd) | fail)
        have d0 := hBd.cell (i := 0) rfl
        have d1 := hBd.cell (i := 1) rfl
        obtain ⟨fs, hu, _⟩ := dlS.hu
        refine bodyPost_ret (v := .tuple #[.agg #[.slice wa d.writes.length wc, .slice ma d.marks.length mc], .int .i64 1]) (by simp [results, Try.results14, go_sem, loadVar, isAgg, run_underlying hu, run_sizeOf' dlS.hs, loadCellsFrom, Addr.add, d0, d1]) rfl ?_
        rw [DlEnd, HKx.out]
        exact ⟨_, rfl, ⟨wa, wc, ma, mc, rfl, (h7.keep fun k hk => hgd.block k hk.2 fun e => by injection e with e; omega).weak fun k hk => ⟨by omega, Nat.lt_of_lt_of_le hk.2 hgd.size⟩, (h8.keep fun k hk => hgd.block k hk.2 fun e => by injection e with e; omega).weak fun k hk => ⟨by omega, Nat.lt_of_lt_of_le hk.2 hgd.size⟩⟩, q5.grown hgd q5.size fun k e => by injection e with e; omega⟩
  · have dok : decide (okD d) = false := decide_eq_false hok
    have HK := Lib.hid (show backD d i = (d, 1) by unfold backD; rw [if_neg (fun h => hok h.1)])
    have HKx := HK
    go_wp2_with fail
    refine (dCopied_any w4 (hd.below q) hs).mono ?_
    rintro e w5 ⟨_, rfl, ho, hb5⟩
    obtain ⟨wa, wc, ma, mc, rfl, h7, h8⟩ := ho.rd
    have z5 := hb5.size
    have q5 := q.trans (hb5.mono q.size)
    have hBZ := bz.below hb5 bz.lt
    go_wp2_with (first | (refine wpList_boxStore (us := [.slice wa d.writes.length wc, .slice ma d.marks.length mc]) (by kernel_rfl) rfl rfl rfl rfl rfl rfl hBZ rfl ?_; intro wd hgd hBd) | fail)
    have d0 := hBd.cell (i := 0) rfl
    have d1 := hBd.cell (i := 1) rfl
    obtain ⟨fs, hu, _⟩ := dlS.hu
    refine bodyPost_ret (v := .tuple #[.agg #[.slice wa d.writes.length wc, .slice ma d.marks.length mc], .int .i64 1]) (by simp [results, Try.results14, go_sem, loadVar, isAgg, run_underlying hu, run_sizeOf' dlS.hs, loadCellsFrom, Addr.add, d0, d1]) rfl ?_
    rw [DlEnd, HKx.out]
    exact ⟨_, rfl, ⟨wa, wc, ma, mc, rfl, (h7.keep fun k hk => hgd.block k hk.2 fun e => by injection e with e; omega).weak fun k hk => ⟨by omega, Nat.lt_of_lt_of_le hk.2 hgd.size⟩, (h8.keep fun k hk => hgd.block k hk.2 fun e => by injection e with e; omega).weak fun k hk => ⟨by omega, Nat.lt_of_lt_of_le hk.2 hgd.size⟩⟩, q5.grown hgd q5.size fun k e => by injection e with e; omega⟩
end Go.Proofs.Ytjbdkhddnblieaa
namespace Go.Proofs.Ytjbdkhddnblieaa
open Go.RowKit
theorem calls_of_wp_marks {P : Program} {f : FuncId} {fn : Func} {c : Code} {args : Array Value} {w : World} {R : Ending → World → Prop} (hf : P.funcs[f]? = some fn) (hb : fn.body = some c)
    (h : c.wp P (bodyPostM Fence.wide 3 P fn R) { tmps := args ++ Array.replicate (fn.ntmps - args.size) undef, defers := [] } w) : Calls P f args w R :=
  (callsIn_wide (n := 3)).1 (callsIn_of_wp_marks hf hb trivial (wpIn_wide.2 h) rfl)
end Go.Proofs.Ytjbdkhddnblieaa
namespace Go.Proofs.Ytjbdkhddnblieaa
open Go.RowKit
section
variable {P : Program} {Q : Exit → Act → World → Prop}
def wpOpS (P : Program) (ops : Array Oper) (Q : Exit → Act → World → Prop) (i : Nat) (K : Act → World → Prop) (a : Act) (w : World) : Prop :=
  match ops[i]? with
  | none => K a w
  | some o => if Region.wanted o (yielded ops a.tmps) then o.wp P a w K Q else K (a.put o.dst undef) w
def wpAnyS (P : Program) (ops : Array Oper) (Q : Exit → Act → World → Prop) : Nat → Array Bool → Act → World → Prop
  | 0, listed, a, w => Region.ready .any ops listed = [] ∧ Q .normal a w
  | fuel + 1, listed, a, w =>
    (Region.ready .any ops listed = [] → Q .normal a w) ∧
    ∀ i ∈ Region.ready .any ops listed, wpOpS P ops Q i (wpAnyS P ops Q fuel (listed.setIfInBounds i true)) a w
theorem wp_opIn {o : Oper} {l n : Nat} {a : Act} {w : World} {K K' : Act → World → Prop} (hd : ∀ c, o.op ≠ .defer c) (hK : ∀ a w, K a w → K' a w) (h : o.wp P a w K Q) : o.wpIn (Fence.wide.inRound l) n P a w K' Q := by
  replace h := Oper.wp_mono hK h
  unfold Oper.wp at h
  unfold Oper.wpIn
  refine ⟨fun _ _ => trivial, ?_⟩
  rw [show (Fence.wide.inRound l).round = some l from rfl, Oper.semAt_some l _ _ hd]
  generalize (execOp a.eval o).run P w = r at *
  cases r with
  | ok x w' =>
    cases x <;> simp only [Oper.upon, Oper.uponIn] at h ⊢ <;> first
      | exact h
      | exact h.elim
      | exact ⟨(fun h => by cases h), CallsIn.inRound l ((callsIn_wide (n := n - 1)).2 h)⟩
      | exact ⟨(fun h => by cases h), fun c cs _ => let ⟨v, w', r, s⟩ := h c cs; ⟨v, w', r, stepsIn_wide.2 s⟩⟩
  | halt x w' => cases x <;> simp only [Oper.upon, Oper.uponIn] at h ⊢ <;> first | exact h | exact h.elim
theorem anyS_any {ops : Array Oper} : ∀ (fuel : Nat) (listed : Array Bool) (a : Act) (w : World), wpAnyS P ops Q fuel listed a w → wpAny P .any ops Q fuel listed a w
  | 0, _, _, _, h => h
  | fuel + 1, listed, a, w, ⟨h1, h2⟩ => ⟨h1, fun i hi => by
    have h := h2 i hi
    unfold wpOpS at h
    unfold wpOp
    split
    · rename_i ho
      rw [ho] at h
      exact anyS_any fuel _ _ _ h
    · rename_i o ho
      rw [ho] at h
      dsimp only at h
      split
      · rename_i hw
        rw [if_pos hw] at h
        exact .inl (Oper.wp_mono (fun a w => anyS_any fuel _ a w) h)
      · rename_i hw
        rw [if_neg hw] at h
        exact anyS_any fuel _ _ _ h⟩
theorem wp_region_S {id : Nat} {ops : Array Oper} {a : Act} {w : World} (hm : P.follows .mixedOrders = true) (h : wpAnyS P ops Q ops.size (Array.replicate ops.size false) a { w with drawn := w.drawn + 1 }) : (Code.region id ops true).wp P Q a w :=
  wp_region_any hm (anyS_any _ _ _ _ h)
end
end Go.Proofs.Ytjbdkhddnblieaa
namespace Go.Proofs.Ytjbdkhddnblieaa
open Go.RowKit
theorem wp_rangeFuncH {P : Program} {α : Type} {g : Operand} {ps : Array Tmp} {assign body : Code} {Q : Exit → Act → World → Prop} {a : Act} {w : World}
    {gf : Nat} {lb : Array Value} (hg : a.eval g = .func (.func gf) #[] lb) (eg : ∀ args w, (callFunc gf args).run P w = .ok (.enter gf args) w)
    {encs : α → Array Value} {Kp : World → World → Prop} {S Sp : List α → Prop} {N : Nat} {w0 : World} (hseq : SeqStopsK Fence.wide 2 P gf lb encs Kp S Sp N w0)
    (hKt : ∀ {A B C : World}, Kp A B → Kp B C → Kp A C) (hKb : ∀ (W : World) (l : Nat) (o o' : Obj), w.heap.size ≤ l → W.heap[l]? = some o → o.isCells = false → o.isWalk = false → Kp W (W.putObj l o')) (hb0 : Below w0.heap.size w0 w) (hps : ∀ x, (encs x).size = ps.size)
    (I : List α → World → Prop) (Ix : Code → List α → World → Prop) (hI : OwnFrom w.heap.size I) (hIx : ∀ c, OwnFrom w.heap.size (Ix c)) (h0 : I [] w) (Ax : α → Act → World → Prop) (hAx : ∀ x a', OwnFrom w.heap.size (fun (_ : Unit) W => Ax x a' W))
    (hassign : ∀ (l : Nat) (pre : List α) (x : α) (W : World) (K : Act → World → Prop), I pre W → (∀ a' W', KeepsFrom w.heap.size W W' → Kp W W' → I pre W' → Ax x a' W' → K a' W') →
      assign.wpIn (Fence.wide.inRound l) 1 P (Exit.then K (fun _ _ _ => False)) { tmps := (ps.zip (encs x)).foldl (fun t (p, v) => t.setIfInBounds p v) a.tmps, defers := [] } W)
    (hbody : ∀ (l : Nat) (pre : List α) (x : α) (a' : Act) (W : World), I pre W → Ax x a' W → pre.length < N → body.wpIn (Fence.wide.inRound l) 1 P (ownPostG w.heap.size Kp I Ix (pre ++ [x]) W) a' W)
    (hdone : ∀ (D : Nat) (xs : List α) (W : World), w.heap.size ≤ D → S xs → I xs W → W.heap[D]? = some (.deferred (some [])) → Q .normal { a with defers := { target := .collected D, args := #[] } :: a.defers } W)
    (hstop : ∀ (D : Nat) (c : Code) (pre : List α) (W : World), w.heap.size ≤ D → Sp pre → Ix c pre W → W.heap[D]? = some (.deferred (some [])) → c.wp P Q { a with defers := { target := .collected D, args := #[] } :: a.defers } W) :
    (Code.rangeFunc g ps assign body).wp P Q a w :=
  (wpIn_wide (n := 3)).1 (wpIn_rangeFunc_ownH rfl (by omega) hg trivial eg hseq hKt hKb hb0 hps I Ix hI hIx h0 Ax hAx hassign (fun l pre x a' W _ _ h1 h2 h3 => hbody l pre x a' W h1 h2 h3) hdone fun D c pre W h1 h2 h3 h4 => wpIn_wide.2 (hstop D c pre W h1 h2 h3 h4))
theorem boxN_own {β : Type} {N b : Nat} {t : TypeId} {vs : List Value} : OwnFrom N (fun (_ : β) W => BoxN W b t vs) := fun _ X _ _ hs hg hr =>
  hs.other hg fun e => by
    obtain ⟨_, o, ho, hc⟩ := hr _ e
    rw [show X.heap[b]? = _ from hs] at ho
    cases ho
    cases hc
theorem below_ownN {β : Type} {n₀ N : Nat} {w₀ : World} (h1 : n₀ ≤ w₀.heap.size) (h2 : n₀ ≤ N) : OwnFrom N (fun (_ : β) W => Below n₀ w₀ W) := fun _ _ _ _ hs hg hr =>
  hs.grown hg (Nat.le_trans h1 hs.size) fun k e => Nat.le_trans h2 (hr k e).1
section
variable {P : Program} {t : TypeId} {ops : Array Oper} {rest : List Oper} {o : Oper} {a : Act} {Q : Exit → Act → World → Prop} {w : World} {l n : Nat}
theorem inR_boxNew {vs : List Value} (hz : (P.info? t).bind (·.zero) = some (.agg vs.toArray)) (ho : o.op = .alloc t) (hgd : Region.wanted o (yielded ops a.tmps) = true) (h : ∀ w', Below w.heap.size w w' → BoxN w' w.heap.size t vs → wpListIn (Fence.wide.inRound l) n P ops Q rest (a.put o.dst (.pointer (some ⟨w.heap.size, 0, none⟩))) w') : wpListIn (Fence.wide.inRound l) n P ops Q (o :: rest) a w :=
  BigFrame.wpListIn_want hgd fun K hK => wp_opIn (K := K) (by rw [ho]; intro c h; cases h) (fun _ _ h => h) (wp_boxNew hz ho fun w' h1 h2 => hK _ _ (h w' h1 h2))
theorem inR_boxStore {vs us : List Value} {x y : Operand} {b : Nat} (hs : (P.info? t).map (·.size) = some us.length) (ho : o.op = .store t x y) (hd : o.dst = none) (hgd : Region.wanted o (yielded ops a.tmps) = true) (hx : a.eval x = .pointer (some ⟨b, 0, none⟩)) (hy : a.eval y = .agg us.toArray) (h1 : us.all (·.oneCell') = true) (hb : BoxN w b t vs) (hl : vs.length = us.length)
    (h : ∀ w', w.grownBy w' (some b) → BoxN w' b t us → wpListIn (Fence.wide.inRound l) n P ops Q rest a w') : wpListIn (Fence.wide.inRound l) n P ops Q (o :: rest) a w :=
  BigFrame.wpListIn_want hgd fun K hK => wp_opIn (K := K) (by rw [ho]; intro c h; cases h) (fun _ _ h => h) (wp_boxStore hs ho hx hy h1 hb hl fun w' h3 h4 => hK _ _ (by rw [hd]; exact h w' h3 h4))
theorem inR_boxSet {t2 : TypeId} {vs : List Value} {x y : Operand} {b j : Nat} {u : Value} (ho : o.op = .store t2 x y) (hd : o.dst = none) (hgd : Region.wanted o (yielded ops a.tmps) = true) (hs : (P.info? t2).map (·.size) = some 1) (hx : a.eval x = .pointer (some ⟨b, j, none⟩)) (hy : a.eval y = u) (hu : u.cells = #[u]) (h1 : u.oneCell' = true) (hb : BoxN w b t vs) (hj : j < vs.length)
    (h : ∀ w', w.grownBy w' (some b) → BoxN w' b t (vs.set j u) → wpListIn (Fence.wide.inRound l) n P ops Q rest a w') : wpListIn (Fence.wide.inRound l) n P ops Q (o :: rest) a w :=
  BigFrame.wpListIn_want hgd fun K hK => wp_opIn (K := K) (by rw [ho]; intro c h; cases h) (fun _ _ h => h) (wp_boxSet ho hs hx hy hu h1 hb hj fun w' h3 h4 => hK _ _ (by rw [hd]; exact h w' h3 h4))
end
end Go.Proofs.Ytjbdkhddnblieaa
namespace Go.Proofs.Ytjbdkhddnblieaa
open Go.RowKit Go.Shelf
theorem plS : StP Try.prog 62 2 := StP.of (by kernel_rfl)
set_option maxRecDepth 100000 in
theorem plEqual (m n : Int) (xs ys : List UInt8) (w : World) : (Op.equalIn 10000 62 (.agg #[.int .i64 m, .string (strOf xs)]) (.agg #[.int .i64 n, .string (strOf ys)])).run Try.prog w = .ok (decide ((⟨m, xs⟩ : Plc) = ⟨n, ys⟩)) w := by
  have hS : Try.prog.underlying 62 = some (.struct (Try.prog.fieldsOf 62)) := by kernel_rfl
  have hp : Try.prog.stoodInHeld 62 = false := by kernel_rfl
  have u3 : Try.prog.underlying 3 = some (.int .i64) := by kernel_rfl
  have u9 : Try.prog.underlying 9 = some .string := by kernel_rfl
  rw [show (10000 : Nat) = 9999 + 1 from rfl, run_equalIn_agg w 9999 62 _ _ hS hp]
  simp only [Program.fieldsOf, Try.underlying62]
  go_simp
  by_cases h1 : m = n <;> by_cases h2 : xs = ys <;> simp [h1, h2, strOf]
section
variable {t : TypeId} {o : Oper} {a : Act} {K : Act → World → Prop} {Q : Exit → Act → World → Prop} {w : World}
theorem wp_eqP {x y : Operand} {m n : Int} {xs ys : List UInt8} (ho : o.op = .binOp .eql 62 x y t) (hx : a.eval x = .agg #[.int .i64 m, .string (strOf xs)]) (hy : a.eval y = .agg #[.int .i64 n, .string (strOf ys)])
    (h : K (a.put o.dst (.bool (decide ((⟨m, xs⟩ : Plc) = ⟨n, ys⟩)))) w) : o.wp Try.prog a w K Q := by
  have hm : Try.prog.eqGuardType Try.prog.depth 62 = false := by kernel_rfl
  refine wp_run' ?_ h
  simp only [execOp, ho, hx, hy]
  simp [run_eqGuard_agg w _ 62 _ _ _ _ hm, run_eql_struct, plEqual, go_sem]
end
set_option maxRecDepth 100000 in
set_option maxHeartbeats 4000000 in
theorem placed_any (w : World) {S : Nat → Prop} {v : Value} {x : Wr} (h : RdWr S w v x) :
    Calls Try.prog 37 #[v] w fun e w' => e = .returned (.agg #[.int .i64 x.table, .string (strOf x.key)]) ∧ Below w.heap.size w w' := by
  obtain ⟨a, c, a2, c2, rfl, hk, hv, ht⟩ := h
  have q : Below w.heap.size w ((w.alloc (.cells #[.int .i64 x.table, .slice a x.key.length c, .bool x.gone, .slice a2 x.val.length c2] 28)).alloc (.cells #[.int .i64 0, .string ByteArray.empty] 62)) := ((Below.refl _ w).alloc (Nat.le_refl _) _).alloc (by simp) _
  go_enter Try.func37, Try.ntmps37
  go_wp2_with (first | (refine wpList_conv byP rfl rfl rfl ((hk.below q).rd) ?_) | fail)
  have b2 := BoxN.new (w.alloc (.cells #[.int .i64 x.table, .slice a x.key.length c, .bool x.gone, .slice a2 x.val.length c2] 28)) 62 [.int .i64 x.table, .string (strOf x.key)]
  have s1 : (w.alloc (.cells #[.int .i64 x.table, .slice a x.key.length c, .bool x.gone, .slice a2 x.val.length c2] 28)).heap.size = w.heap.size + 1 := World.size_alloc _ _
  rw [s1] at b2
  have d0 := b2.cell (i := 0) rfl
  have d1 := b2.cell (i := 1) rfl
  obtain ⟨fs, hu, _⟩ := plS.hu
  exact bodyPost_ret (v := .agg #[.int .i64 x.table, .string (strOf x.key)]) (by simp [results, Try.results37, go_sem, loadVar, isAgg, run_underlying hu, run_sizeOf' plS.hs, loadCellsFrom, Addr.add, d0, d1]) rfl ⟨rfl, ((Below.refl _ w).alloc (Nat.le_refl _) _).alloc (by simp) _⟩
def CalJ (W : World) (u : Value) : List Value → World → Prop
  | [], V => Below W.heap.size W V
  | v :: _, V => Below W.heap.size W V ∧ v = u
theorem CalJ.base {W V : World} {u : Value} : ∀ {l : List Value}, CalJ W u l V → Below W.heap.size W V
  | [], h => h
  | _ :: _, h => h.1
theorem CalJ.below {W : World} {u : Value} : ∀ (l : List Value) (V V' : World), CalJ W u l V → Below V.heap.size V V' → CalJ W u l V'
  | [], _, _, h, hb => Below.trans h (hb.mono (Below.size h))
  | _ :: _, _, _, ⟨h, e⟩, hb => ⟨h.trans (hb.mono h.size), e⟩
set_option maxRecDepth 100000 in
set_option maxHeartbeats 4000000 in
theorem findIs_any (w : World) {S : Nat → Prop} {v : Value} {x : Wr} {p : Plc} {pb : Nat} (h : RdWr S w v x) (bp : BoxN w pb 62 [.int .i64 p.table, .string (strOf p.key)]) :
    Calls Try.prog 36 #[v, .pointer (some ⟨pb, 0, none⟩)] w fun e w' => e = .returned (.bool (decide (x.plc = p))) ∧ Below w.heap.size w w' := by
  have hx := h
  obtain ⟨KA, KC, VA, VC, rfl, hk, hv, ht⟩ := h
  have eP : ∀ args w, (callFunc 37 args).run Try.prog w = .ok (.enter 37 args) w := enters_of Try.func37 (by kernel_rfl) rfl
  have bx := BoxN.new w 28 [.int .i64 x.table, .slice KA x.key.length KC, .bool x.gone, .slice VA x.val.length VC]
  obtain ⟨W, hW⟩ : ∃ W, W = w.alloc (.cells #[.int .i64 x.table, .slice KA x.key.length KC, .bool x.gone, .slice VA x.val.length VC] 28) := ⟨_, rfl⟩
  have q : Below w.heap.size w W := by rw [hW]; exact (Below.refl _ _).alloc (Nat.le_refl _) _
  rw [show w.alloc (.cells [.int .i64 x.table, .slice KA x.key.length KC, .bool x.gone, .slice VA x.val.length VC].toArray 28) = W from hW.symm] at bx
  replace bp := bp.below q bp.lt
  go_enter Try.func36, Try.ntmps36
  go_upto_region 1 with (fail)
  rw [← hW]
  clear hW
  refine wp_region_lnl (K := fun _ _ => True) (by kernel_rfl) (by kernel_rfl) [1] (by kernel_rfl) [lEq (.agg #[.int .i64 x.table, .slice KA x.key.length KC, .bool x.gone, .slice VA x.val.length VC]), lAny, lEq (.agg #[.int .i64 p.table, .string (strOf p.key)]), lEq (.bool (decide (x.plc = p))), lEq (.bool (decide (x.plc = p)))] (CalJ W (.agg #[.int .i64 x.table, .string (strOf x.key)])) CalJ.below (show Below W.heap.size W W from Below.refl _ _)
    ⟨?o0, ?o1, ?o2, ?o3, ?o4, trivial⟩ ?fin
  case o0 =>
    refine LnOp.side rfl (by kernel_rfl) (fun A va w' k hF hT hk hJ hb hu hp hd => ?_)
    have e1 : A.eval (.tmp 2) = .pointer (some ⟨w.heap.size, 0, none⟩) := hF 2 rfl
    have hX2 := bx.below (CalJ.base hJ) bx.lt
    exact wp_load4 wrS rfl e1 (hX2.cell (i := 0) rfl) (hX2.cell (i := 1) rfl) (hX2.cell (i := 2) rfl) (hX2.cell (i := 3) rfl) ⟨_, rfl, rfl, Below.refl _ _⟩
  case o1 =>
    refine LnOp.line 0 rfl rfl (fun A va w' hF hT hJ hu hd => ?_)
    have e1 : A.eval (.tmp 4) = .agg #[.int .i64 x.table, .slice KA x.key.length KC, .bool x.gone, .slice VA x.val.length VC] := (hT 4 0 (by simp) rfl).trans (hd ⟨0, .data⟩ (by simp) rfl rfl)
    have hJ0 : Below W.heap.size W w' := hJ
    refine wp_callFn rfl eP (by simp only [List.map_toArray, List.map_cons, List.map_nil, e1]) ((placed_any w' ((hx.below q).below hJ0)).mono ?_)
    rintro e w2 ⟨rfl, hb2⟩
    exact ⟨_, rfl, _, rfl, ⟨hJ0.trans (hb2.mono hJ0.size), rfl⟩, trivial⟩
  case o2 =>
    refine LnOp.side rfl (by kernel_rfl) (fun A va w' k hF hT hk hJ hb hu hp hd => ?_)
    have e1 : A.eval (.tmp 1) = .pointer (some ⟨pb, 0, none⟩) := hF 1 rfl
    have hP2 := bp.below (CalJ.base hJ) bp.lt
    exact wp_load2 plS rfl e1 (hP2.cell (i := 0) rfl) (hP2.cell (i := 1) rfl) ⟨_, rfl, rfl, Below.refl _ _⟩
  case o3 =>
    refine LnOp.side rfl (by kernel_rfl) (fun A va w' k hF hT hk hJ hb hu hp hd => ?_)
    have x1 : A.eval (.tmp 5) = va 1 := hT 5 1 (by simp) rfl
    have e2 : A.eval (.tmp 6) = .agg #[.int .i64 p.table, .string (strOf p.key)] := (hT 6 2 (by simp) rfl).trans (hd ⟨2, .data⟩ (by simp) rfl rfl)
    obtain rfl : k = 1 := by
      have h1 := hp ⟨1, .data⟩ (by simp) rfl 0 rfl
      have h3 : k ≤ 1 := by assumption
      omega
    obtain ⟨_, hv⟩ : Below W.heap.size W w' ∧ va 1 = .agg #[.int .i64 x.table, .string (strOf x.key)] := hJ
    exact wp_eqP rfl (x1.trans hv) e2 ⟨_, rfl, rfl, Below.refl _ _⟩
  case o4 =>
    refine LnOp.side rfl (by kernel_rfl) (fun A va w' k hF hT hk hJ hb hu hp hd => ?_)
    have e1 : A.eval (.tmp 7) = .bool (decide (x.plc = p)) := (hT 7 3 (by simp) rfl).trans (hd ⟨3, .data⟩ (by simp) rfl rfl)
    exact BigFrame.wp_assign _ rfl ⟨_, rfl, e1, Below.refl _ _⟩
  case fin =>
    intro vs1 W9 hJ hG
    have g3 : vs1 3 = .bool (decide (x.plc = p)) := hG 3 (by decide) rfl
    have g4 : vs1 4 = .bool (decide (x.plc = p)) := hG 4 (by decide) rfl
    have hb9 : Below W.heap.size W W9 := CalJ.base hJ
    clear hG hJ
    simp only [putAll, g3, g4]
    clear g3 g4
    go_simp
    go_wp2_with fail
    go_ret
    exact ⟨rfl, q.trans (hb9.mono q.size)⟩
end Go.Proofs.Ytjbdkhddnblieaa
