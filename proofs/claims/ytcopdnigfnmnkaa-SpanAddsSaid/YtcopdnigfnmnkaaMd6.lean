/-
  TEXTS OF ONE PROOF, merged: SpH, SpI, SpJ, Bri, Setr.
-/
import Derived.OrdersIn
import Derived.RangeFuncCalls
import Derived.TacticsIn
import Derived.Test.YtcopdnigfnmnkaaMd5
namespace Go.Proofs.Ytcopdnigfnmnkaa
open Go.RowKit Go.Shelf
section
variable {α : Type} {E : Elt α} {S : Nat → Prop} {w w' : World}
theorem OwnL.rowQS {Te : TypeId} {base lo : Nat} {v : Value} {xs : List α} (h : OwnL E Te base lo w v xs) : ∃ vs, RowQ Te E.size w v xs.length vs ∧ Flat E (fun k => lo ≤ k ∧ k < w.heap.size ∧ some k ≠ v.ownBlock) w xs vs := by
  obtain ⟨vs, h1, h2⟩ := h
  exact ⟨vs, ⟨⟨h1.1, h1.2.imp id fun ⟨g, cap, cur, a, b, c⟩ => ⟨g, cap, cur, a, Nat.zero_le _, c⟩⟩, h2.one⟩, h2⟩
theorem OwnL.rowToS {Te : TypeId} {base lo : Nat} {v v' : Value} {xs xs' : List α} {vs' : List Value} {n' : Nat} (h : OwnL E Te base lo w v xs) (hT : RowTo Te E.size w v n' vs' v' w') (hF : Flat E (fun k => lo ≤ k ∧ k < w.heap.size ∧ some k ≠ v.ownBlock) w xs' vs') (hn : n' = xs'.length) (hb : base ≤ w.heap.size) : OwnL E Te base lo w' v' xs' := by
  obtain ⟨hq, hg, hv⟩ := hT
  subst hn
  have hne : ∀ g, v'.ownBlock = some g → base ≤ g := fun g e2 => by
    rcases hv with hv | ⟨k, hv, hk⟩
    · exact (h.block_lt g (hv.symm.trans e2)).1
    · rw [e2] at hv; injection hv with hv; omega
  refine ⟨vs', ⟨hq.1.1, ?_⟩, (hF.keep fun k hk => hg.block k hk.2.1 hk.2.2).weak fun k hk => ⟨hk.1, Nat.lt_of_lt_of_le hk.2.1 hg.size, ?_⟩⟩
  · rcases hq.1.2 with h1 | ⟨g, cap, cur, e, _, c⟩
    · exact .inl h1
    · exact .inr ⟨g, cap, cur, e, hne g (by rw [e]; rfl), c⟩
  · rcases hv with hv | ⟨j, hv, hj⟩
    · rw [hv]; exact hk.2.2
    · rw [hv]; intro e; injection e with e; omega
end
theorem BoxN.other' {W W' : World} {b : Nat} {t : TypeId} {vs : List Value} {c : Option Nat} (h : BoxN W b t vs) (hg : W.grownBy W' c) (hn : c ≠ some b) : BoxN W' b t vs := (hg.block b h.lt fun e => hn e.symm).trans h
theorem oneT_true (t : Int) : ∀ l : List Sp, oneT t true l = notT t l
  | [] => rfl
  | s :: l => by
    unfold oneT notT
    rw [List.filter_cons]
    by_cases h : s.table = t
    · simp [h, oneT_true t l, notT]
    · simp [h, oneT_true t l, notT]
theorem oneT_at (t : Int) : ∀ (l : List Sp) (j : Nat) (h : j < l.length), l[j].table = t → (∀ y ∈ l.take j, y.table ≠ t) → oneT t false l = (notT t l).take j ++ [allS t] ++ (notT t l).drop j ∧ j ≤ (notT t l).length
  | s :: l, 0, _, he, _ => by
    have he : s.table = t := he
    unfold oneT
    rw [if_pos he, if_neg (by simp), oneT_true]
    have : notT t (s :: l) = notT t l := by unfold notT; rw [List.filter_cons]; simp [he]
    rw [this]
    simp
  | s :: l, j + 1, h, he, hno => by
    have hs : s.table ≠ t := hno s (by simp)
    obtain ⟨h1, h2⟩ := oneT_at t l j (by simpa using h) (by simpa using he) fun y hy => hno y (by simp [hy])
    have : notT t (s :: l) = s :: notT t l := by unfold notT; rw [List.filter_cons]; simp [hs]
    unfold oneT
    rw [if_neg hs, h1, this]
    simp
    exact h2
def boundS (l : List Sp) (t m : Int) : List Sp := if (manyT t l : Int) ≤ m then l else oneT t false l
theorem manyT_snoc {t : Int} {l : List Sp} {k : Nat} (h : k < l.length) : manyT t (l.take (k + 1)) = manyT t (l.take k) + (if l[k].table = t then 1 else 0) := by
  unfold manyT
  rw [List.take_succ_eq_append_getElem h, List.countP_append]
  congr 1
  by_cases e : l[k].table = t <;> simp [e]
theorem manyT_le (t : Int) (l : List Sp) : manyT t l ≤ l.length := List.countP_le_length
def BdJ (base lo : Nat) (W : World) (r : Option Nat) (a : Option Addr) (c : Nat) (t : Int) (l : List Sp) : List Value → World → Prop
  | [], V => Below W.heap.size W V
  | [v], V => W.grownBy V r ∧ ∃ k, v = .slice a k c ∧ OwnL Elt.sp 24 base lo V (.slice a k c) (notT t l)
  | _ :: u :: rest, V => (∀ y ∈ rest, y = u) ∧ W.grownBy V r ∧ ∃ a' k' c', u = .slice a' k' c' ∧ OwnL Elt.sp 24 base lo V (.slice a' k' c') (oneT t false l)
theorem BdJ.below {base lo : Nat} {W : World} {r : Option Nat} {a : Option Addr} {c : Nat} {t : Int} {l : List Sp} : ∀ (vs : List Value) (V V' : World), BdJ base lo W r a c t l vs V → Below V.heap.size V V' → BdJ base lo W r a c t l vs V'
  | [], _, _, h, hb => Below.trans h (hb.mono (Below.size h))
  | [_], _, _, ⟨h, k, e, hO⟩, hb => ⟨grownT h (grownB hb r), k, e, hO.below hb⟩
  | _ :: _ :: _, _, _, ⟨h0, h, a', k', c', e, hO⟩, hb => ⟨h0, grownT h (grownB hb r), a', k', c', e, hO.below hb⟩
theorem BdJ.grown {base lo : Nat} {W : World} {r : Option Nat} {a : Option Addr} {c : Nat} {t : Int} {l : List Sp} : ∀ {vs : List Value} {V : World}, BdJ base lo W r a c t l vs V → W.grownBy V r
  | [], _, h => grownB h r
  | [_], _, ⟨h, _⟩ => h
  | _ :: _ :: _, _, ⟨_, h, _⟩ => h
set_option maxRecDepth 100000 in
set_option maxHeartbeats 8000000 in
theorem bounded_any (w : World) {base lo : Nat} {a : Option Addr} {n c : Nat} {l : List Sp} {t m : Int} (hO : OwnL Elt.sp 24 base lo w (.slice a n c) l) (ht : W64 t) (hm : 0 ≤ m) (hn : l.length ≤ 900000) (hbase : base ≤ w.heap.size) (hlo : lo ≤ w.heap.size) :
    Calls Try.prog 35 #[.slice a n c, .int .i64 t, .int .i64 m] w fun e w' => ∃ a' k' c', e = .returned (.slice a' k' c') ∧ OwnL Elt.sp 24 base lo w' (.slice a' k' c') (boundS l t m) ∧ w.grownBy w' (Value.ownBlock (.slice a n c)) := by
  obtain rfl : n = l.length := hO.len
  have hlm : l.length ≤ 9223372036854775807 := by omega
  have hEE := enters_of Try.func41 (by kernel_rfl) rfl
  have eD : ∀ args w, (callFunc 43 args).run Try.prog w = .ok (.enter 43 args) w := enters_of Try.func43 (by kernel_rfl) rfl
  have eA : ∀ args w, (callFunc 13 args).run Try.prog w = .ok (.enter 13 args) w := enters_of Try.func13 (by kernel_rfl) rfl
  have eI : ∀ args w, (callFunc 42 args).run Try.prog w = .ok (.enter 42 args) w := enters_of Try.func42 (by kernel_rfl) rfl
  have hob : ∀ k, Value.ownBlock (.slice a l.length c) = some k → base ≤ k ∧ k < w.heap.size := fun k hk => hO.block_lt k hk
  obtain ⟨W0, hW, q0, Bt, hsz⟩ := spBox w 3 [.int .i64 t]
  go_enter Try.func35, Try.ntmps35
  go_upto_region 1 with (fail)
  rw [show w.alloc (.cells #[.int .i64 t] 3) = W0 from hW.symm]
  clear hW hsz
  replace hO := hO.below q0
  have z0 := Bt.lt
  go_wp2_with fail
  refine (indexOf_any W0 Bt hO.rdL).mono ?_
  rintro e w1 ⟨i0, rfl, hi, hb⟩
  have q1 := q0.trans (hb.mono q0.size)
  have hB1 := Bt.below hb Bt.lt
  replace hO := hO.below hb
  replace hi := Lib.hid hi
  clear hb Bt q0 z0
  go_upto_region 4 with (fail)
  go_loopw [9, 18] (fun mv iv wr => ∃ (k : Nat), iv = .int .i64 k ∧ k ≤ l.length ∧ mv = .int .i64 (manyT t (l.take k) : Nat) ∧ BoxN wr w.heap.size 3 [.int .i64 t] ∧ Below w1.heap.size w1 wr)
    (fun _ i _ => l.length - (intOf i).toNat)
  case atStart => exact ⟨0, rfl, Nat.zero_le _, rfl, hB1, Below.refl _ _⟩
  case round =>
    clear hB1
    obtain ⟨k, rfl, hkl, rfl, hB, q⟩ := hrel
    have hmle : manyT t (l.take k) ≤ l.length := Nat.le_trans (manyT_le _ _) (by rw [List.length_take]; omega)
    rcases Nat.lt_or_ge k l.length with hlt | hge
    · obtain ⟨b, off, KA, KC, VA, VC, rfl, hb, c0, c1, c2, c3, hk1, hk2, hts⟩ := ((hO.below q).rdL).sp k hlt
      have hsn := Lib.hid (manyT_snoc (t := t) hlt)
      obtain ⟨s, es⟩ : ∃ s, s = l[k] := ⟨_, rfl⟩
      obtain ⟨mk, emk⟩ : ∃ mk, mk = manyT t (l.take k) := ⟨_, rfl⟩
      rw [← es] at c0 c1 c2 c3 hk1 hk2 hts hsn
      rw [← emk] at hmle hsn
      rw [← emk]
      clear es emk
      go_upto_region 6 with (first | (refine wpList_boxNew (vs := [.int .i64 0, .slice none 0 0, .slice none 0 0, .bool false]) (by kernel_rfl) rfl rfl ?_; intro wa hba hBa) | (refine wpList_boxStore (us := [.int .i64 s.table, .slice KA s.lo.length KC, .slice VA s.hi.length VC, .bool s.isOpen]) (by kernel_rfl) rfl rfl rfl rfl rfl rfl hBa rfl ?_; intro W hgw hXW) | fail)
      go_simp
      have hbw : Below wr.heap.size wr W := hba.grown hgw hba.size fun k hk => by injection hk with hk; omega
      have hss : RdSp _ W (.agg #[.int .i64 s.table, .slice KA s.lo.length KC, .slice VA s.hi.length VC, .bool s.isOpen]) s := ⟨_, _, _, _, rfl, hk1.below hbw, hk2.below hbw, hts⟩
      replace hB := hB.below hbw hB.lt
      replace q := q.trans (hbw.mono q.size)
      clear c0 c1 c2 c3 hba hBa hgw hbw hk1 hk2 hts
      have f0 := hXW.cell (i := 0) rfl
      have f1 := hXW.cell (i := 1) rfl
      have f2 := hXW.cell (i := 2) rfl
      have f3 := hXW.cell (i := 3) rfl
      go_wp2_with fail
      refine (sOf_any W hss hB).mono ?_
      rintro e w3 ⟨rfl, hb3⟩
      replace hB := hB.below hb3 hB.lt
      replace q := q.trans (hb3.mono q.size)
      clear f0 f1 f2 f3 hss hXW hb3
      by_cases hst : s.table = t
      · rw [decide_eq_true hst]
        have hs2 := Lib.hid (show manyT t (l.take (k + 1)) = mk + 1 by rw [hsn.out, if_pos hst])
        clear hst hsn
        go_wp2_with fail
        go_roundw
        case rel => exact ⟨k + 1, by go_num, by omega, by rw [hs2.out]; go_num, hB, q⟩
        case measure => simp [intOf]; omega
      · rw [decide_eq_false hst]
        have hs2 := Lib.hid (show manyT t (l.take (k + 1)) = mk by rw [hsn.out, if_neg hst]; rfl)
        clear hst hsn
        go_wp2_with fail
        go_roundw
        case rel => exact ⟨k + 1, by go_num, by omega, by rw [hs2.out], hB, q⟩
        case measure => simp [intOf]; omega
    · obtain rfl : k = l.length := by omega
      rw [List.take_length] at hmle
      rw [List.take_length]
      replace hO := hO.below q
      have qr := q1.trans (q.mono q1.size)
      have zr := qr.size
      by_cases hmm : (manyT t l : Int) ≤ m
      · have d1 : decide ((manyT t l : Int) ≤ m) = true := decide_eq_true hmm
        have H := Lib.hid (show boundS l t m = l from if_pos hmm)
        clear hmm hi
        go_wp2_with fail
        go_ret
        exact ⟨_, _, _, rfl, by rw [H.out]; exact hO, grownB qr _⟩
      have d1 : decide ((manyT t l : Int) ≤ m) = false := decide_eq_false hmm
      have H := Lib.hid (show boundS l t m = oneT t false l from if_neg hmm)
      obtain ⟨j0, hj0, rfl, hy, hno⟩ : ∃ (j : Nat) (h : j < l.length), i0 = (j : Int) ∧ decide (l[j].table = t) = true ∧ ∀ y ∈ l.take j, decide (y.table = t) = false := by
        rcases hi.out with ⟨_, h2⟩ | h
        · exfalso
          have : manyT t l = 0 := List.countP_eq_zero.2 fun y hy => by have := h2 y hy; simpa using this
          omega
        · exact h
      obtain ⟨hon, hjn⟩ := oneT_at t l j0 hj0 (by simpa using hy) fun y hy => by simpa using hno y hy
      have hone := Lib.hid hon
      have hnl : (notT t l).length ≤ l.length := List.length_filter_le _ _
      clear hi hy hno hon hmm
      have hrW : ∀ k, Value.ownBlock (.slice a l.length c) = some k → k < wr.heap.size := fun k hk => by have := hob k hk; omega
      have hS : ∀ k, (fun _ => False) k → some k ≠ Value.ownBlock (.slice a l.length c) := fun _ h => h.elim
      have hne : Value.ownBlock (.slice a l.length c) ≠ some w.heap.size := fun e => by have := hob _ e; omega
      have hBr := hne
      replace hbase := Nat.le_trans hbase zr
      replace hlo := Nat.le_trans hlo zr
      go_upto_region 11 with (fail)
      refine wp_region_lnl (K := fun A B => A.grownBy B (Value.ownBlock (.slice a l.length c))) (by kernel_rfl) (by kernel_rfl) [2, 7, 8] (by kernel_rfl) [lEq (.slice a l.length c), lEq (.func (.func 41) #[] #[.pointer (some ⟨w.heap.size, 0, none⟩)]), lAny, lEq (.int .i64 (j0 : Nat)), lEq (.int .i64 t), aElt Elt.sp wr (Value.ownBlock (.slice a l.length c)) (fun _ => False) (allS t) hrW hS, aRow Elt.sp 24 wr (Value.ownBlock (.slice a l.length c)) (fun _ => False) (allS t) hrW hS, lAny, lAny] (BdJ base lo wr (Value.ownBlock (.slice a l.length c)) a c t l) BdJ.below (show Below wr.heap.size wr wr from Below.refl _ _)
        ⟨?o0, ?o1, ?o2, ?o3, ?o4, ?o5, ?o6, ?o7, ?o8, trivial⟩ ?fin
      case o0 =>
        refine LnOp.side rfl (by kernel_rfl) (fun A va w' k hF hT hk hJ hb hu hp hd => ?_)
        have e1 : A.eval (.tmp 0) = .slice a l.length c := hF 0 rfl
        exact BigFrame.wp_move _ rfl ⟨_, rfl, e1, Below.refl _ _⟩
      case o1 =>
        refine LnOp.side rfl (by kernel_rfl) (fun A va w' k hF hT hk hJ hb hu hp hd => ?_)
        have e1 : A.eval (.tmp 7) = .func (.func 41) #[] #[.pointer (some ⟨w.heap.size, 0, none⟩)] := hF 7 rfl
        exact BigFrame.wp_move _ rfl ⟨_, rfl, e1, Below.refl _ _⟩
      case o2 =>
        refine LnOp.line 0 rfl rfl (fun A va w' hF hT hJ hu hd => ?_)
        have e1 : A.eval (.tmp 32) = .slice a l.length c := (hT 32 0 (by simp) rfl).trans (hd ⟨0, .data⟩ (by simp) rfl rfl)
        have e2 : A.eval (.tmp 33) = .func (.func 41) #[] #[.pointer (some ⟨w.heap.size, 0, none⟩)] := (hT 33 1 (by simp) rfl).trans (hd ⟨1, .data⟩ (by simp) rfl rfl)
        have hJ0 : Below wr.heap.size wr w' := hJ
        refine wp_callFn rfl eD (args := #[.slice a l.length c, .func (.func 41) #[] #[.pointer (some ⟨w.heap.size, 0, none⟩)]]) (by simp only [List.map_toArray, List.map_cons, List.map_nil, e1, e2]) ((deleteOf_any w' (hO.below hJ0) (hB.below hJ0 hB.lt) hne (by omega)).mono ?_)
        rintro e w2 ⟨k, rfl, hO2, hg2⟩
        exact ⟨_, rfl, _, rfl, ⟨grownT (grownB hJ0 _) hg2, k, rfl, hO2⟩, hg2⟩
      case o3 =>
        refine LnOp.side rfl (by kernel_rfl) (fun A va w' k hF hT hk hJ hb hu hp hd => ?_)
        have e1 : A.eval (.tmp 8) = .int .i64 (j0 : Nat) := hF 8 rfl
        exact BigFrame.wp_move _ rfl ⟨_, rfl, e1, Below.refl _ _⟩
      case o4 =>
        refine LnOp.side rfl (by kernel_rfl) (fun A va w' k hF hT hk hJ hb hu hp hd => ?_)
        have e1 : A.eval (.tmp 4) = .pointer (some ⟨w.heap.size, 0, none⟩) := hF 4 rfl
        have hJg := BdJ.grown hJ
        exact wp_ld_int (k := .i64) rfl e1 (by kernel_rfl) ((hB.other' hJg hBr).cell (i := 0) rfl) ⟨_, rfl, rfl, Below.refl _ _⟩
      case o5 =>
        refine LnOp.side rfl (by kernel_rfl) (fun A va w' k hF hT hk hJ hb hu hp hd => ?_)
        have e1 : A.eval (.tmp 36) = .int .i64 t := (hT 36 4 (by simp) rfl).trans (hd ⟨4, .data⟩ (by simp) rfl rfl)
        have hJg := BdJ.grown hJ
        refine wp_callFn rfl eA (args := #[.int .i64 t]) (by simp only [List.map_toArray, List.map_cons, List.map_nil, e1]) ((sAll_any w' ht).mono ?_)
        rintro e w2 ⟨v, rfl, ⟨a1, c1, a2, c2, rfl, h1, h2, h3⟩, hb2⟩
        exact ⟨_, rfl, _, rfl, ⟨[.int .i64 t, .slice a1 (allS t).lo.length c1, .slice a2 (allS t).hi.length c2, .bool true], rfl, _, _, rfl, h1.weak fun k hk => ⟨.inr (Nat.le_trans hJg.size hk.1), hk.2⟩, h2.weak fun k hk => ⟨.inr (Nat.le_trans hJg.size hk.1), hk.2⟩, h3⟩, hb2⟩
      case o6 =>
        refine LnOp.side rfl (by kernel_rfl) (fun A va w' k hF hT hk hJ hb hu hp hd => ?_)
        have x1 : A.eval (.tmp 37) = va 5 := hT 37 5 (by simp) rfl
        have y1 := hd ⟨5, .data⟩ (by simp) rfl rfl
        have hJg := BdJ.grown hJ
        obtain ⟨us, eus, hR⟩ : ∃ us : List Value, (va 5).cells = us.toArray ∧ Elt.R Elt.sp (inNew (fun _ => False) wr w') w' (allS t) us := y1
        exact wp_buildOne spP rfl x1 eus (Elt.len _ hR) (by decide) (by decide) ⟨_, rfl, aRow.mk (hr := hrW) (hS := hS) hJg.size hR, (Below.refl _ _).alloc (Nat.le_refl _) _⟩
      case o7 =>
        refine LnOp.line 1 rfl rfl (fun A va w' hF hT hJ hu hd => ?_)
        have x1 : A.eval (.tmp 34) = va 2 := hT 34 2 (by simp) rfl
        have e2 : A.eval (.tmp 35) = .int .i64 (j0 : Nat) := (hT 35 3 (by simp) rfl).trans (hd ⟨3, .data⟩ (by simp) rfl rfl)
        have x3 : A.eval (.tmp 38) = va 6 := hT 38 6 (by simp) rfl
        have y3 := hd ⟨6, .data⟩ (by simp) rfl rfl
        obtain ⟨hg0, k, ek, hO2⟩ := hJ
        obtain ⟨b9, us, eb, hb0, hbc, hR⟩ : ∃ g, ∃ us : List Value, va 6 = .slice (some ⟨g, 0, none⟩) 1 1 ∧ wr.heap.size ≤ g ∧ w'.heap[g]? = some (.cells us.toArray 24 (0, 0)) ∧ Elt.sp.R (inNew (fun _ => False) wr w') w' (allS t) us := y3
        obtain rfl : k = (notT t l).length := hO2.len
        have hown : Value.ownBlock (.slice a (notT t l).length c) = Value.ownBlock (.slice a l.length c) := by cases a <;> rfl
        obtain ⟨vs, hQ, hF⟩ := hO2.rowQS
        have hul : us.length = 1 * 4 := Elt.len _ hR
        refine wp_callFn rfl eI (args := #[.slice a (notT t l).length c, .int .i64 (j0 : Nat), .slice (some ⟨b9, 0, none⟩) 1 1]) (by simp only [List.map_toArray, List.map_cons, List.map_nil, x1.trans ek, e2, x3.trans eb]) ((insert_s w' (v := .slice a (notT t l).length c) (n := (notT t l).length) (i := j0) (m := 1) hQ hjn (by omega) (by omega) hbc hul (Elt.one _ hR) (fun e => by have := hrW b9 (hown.symm.trans e); omega)).mono ?_)
        rintro e w2 ⟨v', rfl, hT⟩
        have hO3 := hO2.rowToS (xs' := oneT t false l) hT (by rw [hone.out]; exact ((Flat.take hF j0).append (Flat.single (Elt.weak _ hR fun k hk => ⟨Nat.le_trans hlo (hk.1.resolve_left id), hk.2, fun e => by have := hrW k (hown.symm.trans e.symm); have := hk.1.resolve_left id; omega⟩))).append (hF.dropE j0)) (by rw [hone.out]; simp; omega) (Nat.le_trans hbase hg0.size)
        obtain ⟨a', c', rfl⟩ := hO3.shape
        exact ⟨_, rfl, _, rfl, ⟨(fun y hy => by cases hy), grownT hg0 (hown ▸ hT.2.1), a', _, c', rfl, hO3⟩, hown ▸ hT.2.1⟩
      case o8 =>
        refine LnOp.line 2 rfl rfl (fun A va w' hF hT hJ hu hd => ?_)
        have x1 : A.eval (.tmp 39) = va 7 := hT 39 7 (by simp) rfl
        obtain ⟨hg0, hg1, hO2⟩ := hJ
        exact BigFrame.wp_assign _ rfl ⟨_, rfl, ⟨fun y hy => by rw [List.mem_singleton.1 hy]; exact x1, hg1, hO2⟩, grownB (Below.refl _ _) _⟩
      case fin =>
        intro vs1 W9 hJ hG
        obtain ⟨hsame, hg9, a9, k9, c9, e9, hO9⟩ := hJ
        have ea := hsame _ (List.mem_singleton.2 rfl)
        clear hG hsame
        simp only [putAll, ea, e9]
        clear ea e9
        go_simp
        go_wp2_with fail
        go_ret
        exact ⟨_, _, _, rfl, by rw [H.out]; exact hO9, grownT (grownB qr _) hg9⟩
end Go.Proofs.Ytcopdnigfnmnkaa
namespace Go.Proofs.Ytcopdnigfnmnkaa
open Go.RowKit Go.Shelf
def AdEnd (w : World) (r : List Sp × Nat) (e : Ending) (w' : World) : Prop := ∃ a k c, e = .returned (.tuple #[.slice a k c, .int .i64 (r.2 : Nat)]) ∧ OwnL Elt.sp 24 w.heap.size w.heap.size w' (.slice a k c) r.1 ∧ Below w.heap.size w w'
def AdJ (w : World) (B : Nat) (W : World) (b : Nat) (XB : List Value) (x : Sp) (xs : List Sp) (m : Int) : List Value → World → Prop
  | [], V => Below W.heap.size W V ∧ BoxN V b 24 XB
  | [v], V => Below W.heap.size W V ∧ BoxN V b 24 XB ∧ RdSp (fun k => W.heap.size ≤ k ∧ k < V.heap.size) V v x
  | [_, u], V => Below W.heap.size W V ∧ BoxN V b 24 XB ∧ ∃ g, ∃ us : List Value, u = .slice (some ⟨g, 0, none⟩) 1 1 ∧ W.heap.size ≤ g ∧ V.heap[g]? = some (.cells us.toArray 24 (0, 0)) ∧ Elt.sp.R (fun k => W.heap.size ≤ k ∧ k < V.heap.size) V x us
  | [_, _, u], V => Below w.heap.size w V ∧ BoxN V b 24 XB ∧ W.heap.size ≤ V.heap.size ∧ ∃ ad c, u = .slice ad (xs ++ [x]).length c ∧ OwnL Elt.sp 24 B B V (.slice ad (xs ++ [x]).length c) (xs ++ [x])
  | [_, _, _, u], V => Below w.heap.size w V ∧ ∃ a k c, u = .slice a k c ∧ OwnL Elt.sp 24 B B V (.slice a k c) (boundS (xs ++ [x]) x.table m)
  | _ :: _ :: _ :: u :: y :: _, V => y = u ∧ Below w.heap.size w V ∧ ∃ a k c, u = .slice a k c ∧ OwnL Elt.sp 24 B B V (.slice a k c) (boundS (xs ++ [x]) x.table m)
theorem AdJ.below {w : World} {B : Nat} {W : World} {b : Nat} {XB : List Value} {x : Sp} {xs : List Sp} {m : Int} : ∀ (l : List Value) (V V' : World), AdJ w B W b XB x xs m l V → Below V.heap.size V V' → AdJ w B W b XB x xs m l V'
  | [], _, _, ⟨h, h1⟩, hb => ⟨h.trans (hb.mono h.size), h1.below hb h1.lt⟩
  | [_], _, _, ⟨h, h1, h2⟩, hb => ⟨h.trans (hb.mono h.size), h1.below hb h1.lt, (h2.below hb).weak fun _ hk => ⟨hk.1, Nat.lt_of_lt_of_le hk.2 hb.size⟩⟩
  | [_, _], _, _, ⟨h, h1, g, us, e, h2, h3, h4⟩, hb => ⟨h.trans (hb.mono h.size), h1.below hb h1.lt, g, us, e, h2, (hb.block g (Array.getElem?_eq_some_iff.1 h3).1).trans h3, Elt.sp.weak (Elt.below h4 hb) fun _ hk => ⟨hk.1, Nat.lt_of_lt_of_le hk.2 hb.size⟩⟩
  | [_, _, _], _, _, ⟨h, h1, hs, ad, c, e, h2⟩, hb => ⟨h.trans (hb.mono h.size), h1.below hb h1.lt, Nat.le_trans hs hb.size, ad, c, e, h2.below hb⟩
  | [_, _, _, _], _, _, ⟨h, a, k, c, e, h2⟩, hb => ⟨h.trans (hb.mono h.size), a, k, c, e, h2.below hb⟩
  | _ :: _ :: _ :: _ :: _ :: _, _, _, ⟨e0, h, a, k, c, e, h2⟩, hb => ⟨e0, h.trans (hb.mono h.size), a, k, c, e, h2.below hb⟩
set_option maxRecDepth 100000 in
set_option maxHeartbeats 8000000 in
theorem sAdd_any (w : World) {S S2 : Nat → Prop} {a : Option Addr} {n c : Nat} {l : List Sp} {v : Value} {x : Sp} {m : Int} (hl : RdL Elt.sp S w (.slice a n c) l) (hs : smL l) (hn : l.length ≤ 800000) (hx : RdSp S2 w v x) (hxs : smS x) :
    Calls Try.prog 25 #[.slice a n c, v, .int .i64 m] w (AdEnd w (addS l x m)) := by
  obtain ⟨rfl, hnc, hcm⟩ := hl.len
  have hxf := hx.fit
  obtain ⟨hx1, hx2⟩ := hxs
  have eA : ∀ args w, (callFunc 36 args).run Try.prog w = .ok (.enter 36 args) w := enters_of Try.func36 (by kernel_rfl) rfl
  have eB : ∀ args w, (callFunc 35 args).run Try.prog w = .ok (.enter 35 args) w := enters_of Try.func35 (by kernel_rfl) rfl
  have hEE := enters_of Try.func31 (by kernel_rfl) rfl
  obtain ⟨p1, p2, p3, p4, rfl, hlx, hhx, htx⟩ := hx
  obtain ⟨W0, hW, q, Bx, hsz⟩ := spBox w 24 [.int .i64 x.table, .slice p1 x.lo.length p2, .slice p3 x.hi.length p4, .bool x.isOpen]
  go_enter Try.func25, Try.ntmps25
  go_upto_region 1 with (fail)
  rw [show w.alloc (.cells #[.int .i64 x.table, .slice p1 x.lo.length p2, .slice p3 x.hi.length p4, .bool x.isOpen] 24) = W0 from hW.symm]
  clear hW hlx hhx
  have c0 := Bx.cell (i := 0) rfl
  have c1 := Bx.cell (i := 1) rfl
  have c2 := Bx.cell (i := 2) rfl
  have c3 := Bx.cell (i := 3) rfl
  go_wp2_with fail
  refine (sWrong_any W0 (hxf.below q)).mono ?_
  rintro e w1 ⟨rfl, hb⟩
  have z1 := hb.size
  replace q := q.trans (hb.mono q.size)
  replace Bx := Bx.below hb Bx.lt
  clear c0 c1 c2 c3 hb
  by_cases hmx : mayS x
  case neg =>
    rw [decide_eq_false hmx]
    have H := Lib.hid (show addS l x m = (l, 1) from if_neg fun h => hmx h.1)
    clear hmx
    go_wp2_with fail
    refine (copied_any w1 (hl.below q) hs).mono ?_
    rintro e w2 ⟨a', c', rfl, hO, hb2⟩
    go_wp2_with fail
    go_ret2
    rw [H.out]
    exact ⟨_, _, _, rfl, hO.to q.size q.size, q.trans (hb2.mono q.size)⟩
  rw [decide_eq_true hmx]
  replace hmx := Lib.hid hmx
  by_cases hm1 : 1 ≤ m
  case neg =>
    have d1 : decide (m < 1) = true := decide_eq_true (by omega)
    have H := Lib.hid (show addS l x m = (l, 1) from if_neg fun h => hm1 h.2.2.1)
    clear hm1
    go_wp2_with fail
    refine (copied_any w1 (hl.below q) hs).mono ?_
    rintro e w2 ⟨a', c', rfl, hO, hb2⟩
    go_wp2_with fail
    go_ret2
    rw [H.out]
    exact ⟨_, _, _, rfl, hO.to q.size q.size, q.trans (hb2.mono q.size)⟩
  have d1 : decide (m < 1) = false := decide_eq_false (by omega)
  by_cases hm2 : m ≤ 100
  case neg =>
    have d2 : decide (100 < m) = true := decide_eq_true (by omega)
    have H := Lib.hid (show addS l x m = (l, 1) from if_neg fun h => hm2 h.2.2.2)
    clear hm1 hm2
    go_wp2_with fail
    refine (copied_any w1 (hl.below q) hs).mono ?_
    rintro e w2 ⟨a', c', rfl, hO, hb2⟩
    go_wp2_with fail
    go_ret2
    rw [H.out]
    exact ⟨_, _, _, rfl, hO.to q.size q.size, q.trans (hb2.mono q.size)⟩
  have d2 : decide (100 < m) = false := decide_eq_false (by omega)
  go_wp2_with fail
  refine (containsWrong_any w1 (hl.below q)).mono ?_
  rintro e w2 ⟨rfl, hb⟩
  have z2 := hb.size
  replace q := q.trans (hb.mono q.size)
  replace Bx := Bx.below hb Bx.lt
  clear hb
  by_cases hal : ∀ y ∈ l, mayS y
  case neg =>
    rw [decide_eq_false hal]
    have H := Lib.hid (show addS l x m = (l, 1) from if_neg fun h => hal h.2.1)
    clear hal
    go_wp2_with fail
    refine (copied_any w2 (hl.below q) hs).mono ?_
    rintro e w3 ⟨a', c', rfl, hO, hb2⟩
    go_wp2_with fail
    go_ret2
    rw [H.out]
    exact ⟨_, _, _, rfl, hO.to q.size q.size, q.trans (hb2.mono q.size)⟩
  rw [decide_eq_true hal]
  have hok := Lib.hid (show okA l x m from ⟨hmx.out, hal, hm1, hm2⟩)
  clear hal d1 d2
  have c0 := Bx.cell (i := 0) rfl
  have c1 := Bx.cell (i := 1) rfl
  have c2 := Bx.cell (i := 2) rfl
  have c3 := Bx.cell (i := 3) rfl
  have hbs := beside_any w2 (hl.below q) hs (hxf.below q)
  go_wp2_with fail
  refine hbs.mono ?_
  rintro e w3 ⟨u, rfl, hu, hb⟩
  have q2 := q
  have z3 := hb.size
  replace q := q.trans (hb.mono q.size)
  replace Bx := Bx.below hb Bx.lt
  clear hb hbs c0 c1 c2 c3
  cases hst : stays l x with
  | true =>
    have H := Lib.hid (show addS l x m = (l, 0) by unfold addS; rw [if_pos hok.out, if_pos hst])
    clear hst hu
    go_wp2_with fail
    refine (copied_any w3 (hl.below q) hs).mono ?_
    rintro e w4 ⟨a', c', rfl, hO, hb2⟩
    go_wp2_with fail
    go_ret2
    rw [H.out]
    exact ⟨_, _, _, rfl, hO.to q.size q.size, q.trans (hb2.mono q.size)⟩
  | false =>
    obtain ⟨ad, ko, rfl, hO⟩ := hu hst
    have H := Lib.hid (show addS l x m = (boundS (besideS l x ++ [x]) x.table m, 0) by
      unfold addS boundS
      rw [if_pos hok.out, if_neg (by rw [hst]; simp)]
      split <;> rfl)
    obtain ⟨xs, exs⟩ : ∃ xs, xs = besideS l x := ⟨_, rfl⟩
    have hxl : xs.length ≤ 800000 := by rw [exs]; exact Nat.le_trans (List.length_filter_le _ _) hn
    rw [← exs] at hO H
    rw [← exs]
    clear exs hst hu hok hmx
    obtain ⟨B, hB⟩ : ∃ B, B = w2.heap.size := ⟨_, rfl⟩
    rw [← hB] at hO z3
    have zB : w.heap.size < B := by have := Bx.lt; have := q2.size; omega
    have hob : ∀ k, Value.ownBlock (.slice ad xs.length ko) = some k → B ≤ k ∧ k < w3.heap.size := fun k hk => hO.block_lt k hk
    go_upto_region 7 with (fail)
    obtain ⟨W, hWe⟩ : ∃ W, W = w3 := ⟨_, rfl⟩
    rw [← hWe] at Bx q z3 hO hob
    rw [← hWe]
    clear hWe
    have hxW := hxf.below q
    refine wp_region_lnl (K := fun _ _ => True) (by kernel_rfl) (by kernel_rfl) [2, 3, 4, 8, 9] (by kernel_rfl) [lEq (.slice ad xs.length ko), lEq (.agg #[.int .i64 x.table, .slice p1 x.lo.length p2, .slice p3 x.hi.length p4, .bool x.isOpen]), lAny, lAny, lAny, lEq (.pointer (some ⟨w.heap.size, 0 + 0, none⟩)), lEq (.int .i64 x.table), lEq (.int .i64 m), lAny, lAny, lEq (.int .i64 0)] (AdJ w B W w.heap.size [.int .i64 x.table, .slice p1 x.lo.length p2, .slice p3 x.hi.length p4, .bool x.isOpen] x xs m) AdJ.below ⟨Below.refl _ _, Bx⟩
      ⟨?o0, ?o1, ?o2, ?o3, ?o4, ?o5, ?o6, ?o7, ?o8, ?o9, ?o10, trivial⟩ ?fin
    case o0 =>
      refine LnOp.side rfl (by kernel_rfl) (fun A va w' k hF hT hk hJ hb hu hp hd => ?_)
      have e1 : A.eval (.tmp 9) = .slice ad xs.length ko := hF 9 rfl
      exact BigFrame.wp_move _ rfl ⟨_, rfl, e1, Below.refl _ _⟩
    case o1 =>
      refine LnOp.side rfl (by kernel_rfl) (fun A va w' k hF hT hk hJ hb hu hp hd => ?_)
      have e1 : A.eval (.tmp 4) = .pointer (some ⟨w.heap.size, 0, none⟩) := hF 4 rfl
      obtain rfl : k = 0 := by have := hb 0 2 rfl (by kernel_rfl); omega
      obtain ⟨hJ0, hJB⟩ := hJ
      exact wp_load4 spS rfl e1 (hJB.cell (i := 0) rfl) (hJB.cell (i := 1) rfl) (hJB.cell (i := 2) rfl) (hJB.cell (i := 3) rfl) ⟨_, rfl, rfl, Below.refl _ _⟩
    case o2 =>
      refine LnOp.line 0 rfl rfl (fun A va w' hF hT hJ hu hd => ?_)
      have e1 : A.eval (.tmp 40) = .agg #[.int .i64 x.table, .slice p1 x.lo.length p2, .slice p3 x.hi.length p4, .bool x.isOpen] := (hT 40 1 (by simp) rfl).trans (hd ⟨1, .data⟩ (by simp) rfl rfl)
      obtain ⟨hJ0, hJB⟩ := hJ
      refine wp_callFn rfl eA (args := #[.agg #[.int .i64 x.table, .slice p1 x.lo.length p2, .slice p3 x.hi.length p4, .bool x.isOpen]]) (by simp only [List.map_toArray, List.map_cons, List.map_nil, e1]) ((sAlone_any w' (hxW.below hJ0) hx1 hx2).mono ?_)
      rintro e w2 ⟨v, rfl, hrd, hb2⟩
      exact ⟨_, rfl, _, rfl, ⟨hJ0.trans (hb2.mono hJ0.size), hJB.below hb2 hJB.lt, hrd.weak fun k hk => ⟨Nat.le_trans hJ0.size hk.1, hk.2⟩⟩, trivial⟩
    case o3 =>
      refine LnOp.line 1 rfl rfl (fun A va w' hF hT hJ hu hd => ?_)
      have x1 : A.eval (.tmp 41) = va 2 := hT 41 2 (by simp) rfl
      obtain ⟨hJ0, hJB, hrd⟩ := hJ
      obtain ⟨ka, kc, va2, vc, ev, h1, h2, h3⟩ := hrd
      have hbn := (Below.refl w'.heap.size w').alloc (Nat.le_refl _) (.cells [.int .i64 x.table, .slice ka x.lo.length kc, .slice va2 x.hi.length vc, .bool x.isOpen].toArray 24)
      have hR0 : Elt.sp.R (fun k => W.heap.size ≤ k ∧ k < w'.heap.size) w' x [.int .i64 x.table, .slice ka x.lo.length kc, .slice va2 x.hi.length vc, .bool x.isOpen] := ⟨_, _, rfl, h1, h2, h3⟩
      exact wp_buildOne spP rfl (x1.trans ev) rfl rfl (by omega) (by omega) ⟨_, rfl, ⟨hJ0.trans (hbn.mono hJ0.size), hJB.below hbn hJB.lt, _, _, rfl, hJ0.size, (by simp only [World.alloc, Array.getElem?_push_size]), Elt.sp.weak (Elt.below hR0 hbn) fun k hk => ⟨hk.1, Nat.lt_of_lt_of_le hk.2 hbn.size⟩⟩, trivial⟩
    case o4 =>
      refine LnOp.line 2 rfl rfl (fun A va w' hF hT hJ hu hd => ?_)
      have e1 : A.eval (.tmp 39) = .slice ad xs.length ko := (hT 39 0 (by simp) rfl).trans (hd ⟨0, .data⟩ (by simp) rfl rfl)
      have x2 : A.eval (.tmp 42) = va 3 := hT 42 3 (by simp) rfl
      obtain ⟨hJ0, hJB, g9, us9, eg, hg0, hgc, hgR⟩ := hJ
      refine wp_appendL (E := Elt.sp) (ys := [x]) spP rfl e1 (hO.below hJ0) (x2.trans eg) (fun j u hj => by rw [Addr.add_lit, World.cell?, hgc]; simpa using hj) (Flat.single hgR) (fun k hk => ⟨by omega, hk.2, fun e => by have := hob k e.symm; omega⟩) (by have := hJ0.size; omega) (fun ad7 k7 cap7 w2 h2 hg h3 => ?_) (by simp; omega)
      obtain rfl : k7 = (xs ++ [x]).length := h2.len
      exact ⟨_, rfl, ⟨(q.trans (hJ0.mono q.size)).grown hg (q.trans (hJ0.mono q.size)).size fun k hk => by have := hob k hk; omega, hJB.other hg fun e => by have := hob _ e; omega, Nat.le_trans hJ0.size hg.size, ad7, cap7, rfl, h2⟩, trivial⟩
    case o5 =>
      refine LnOp.side rfl (by kernel_rfl) (fun A va w' k hF hT hk hJ hb hu hp hd => ?_)
      have e1 : A.eval (.tmp 4) = .pointer (some ⟨w.heap.size, 0, none⟩) := hF 4 rfl
      exact wp_fieldN spS rfl (e1) (by omega) ⟨_, rfl, rfl, Below.refl _ _⟩
    case o6 =>
      refine LnOp.side rfl (by kernel_rfl) (fun A va w' k hF hT hk hJ hb hu hp hd => ?_)
      have e1 : A.eval (.tmp 44) = .pointer (some ⟨w.heap.size, 0 + 0, none⟩) := (hT 44 5 (by simp) rfl).trans (hd ⟨5, .data⟩ (by simp) rfl rfl)
      have hJB : BoxN w' w.heap.size 24 [.int .i64 x.table, .slice p1 x.lo.length p2, .slice p3 x.hi.length p4, .bool x.isOpen] := by
        have h5 := hb 3 8 rfl (by kernel_rfl)
        rcases k with _ | _ | _ | _ | k
        · exact hJ.2
        · exact hJ.2.1
        · exact hJ.2.1
        · exact hJ.2.1
        · omega
      exact wp_ld_int (k := .i64) rfl e1 (by kernel_rfl) (hJB.cell (i := 0) rfl) ⟨_, rfl, rfl, Below.refl _ _⟩
    case o7 =>
      refine LnOp.side rfl (by kernel_rfl) (fun A va w' k hF hT hk hJ hb hu hp hd => ?_)
      have e1 : A.eval (.tmp 2) = .int .i64 m := hF 2 rfl
      exact BigFrame.wp_move _ rfl ⟨_, rfl, e1, Below.refl _ _⟩
    case o8 =>
      refine LnOp.line 3 rfl rfl (fun A va w' hF hT hJ hu hd => ?_)
      have x1 : A.eval (.tmp 43) = va 4 := hT 43 4 (by simp) rfl
      have e2 : A.eval (.tmp 45) = .int .i64 x.table := (hT 45 6 (by simp) rfl).trans (hd ⟨6, .data⟩ (by simp) rfl rfl)
      have e3 : A.eval (.tmp 46) = .int .i64 m := (hT 46 7 (by simp) rfl).trans (hd ⟨7, .data⟩ (by simp) rfl rfl)
      obtain ⟨hJ0, hJB, hJW, ad7, c7, e7, hO7⟩ := hJ
      have hJs := hJ0.size
      have hbW7 : B ≤ w'.heap.size := by omega
      refine wp_callFn rfl eB (args := #[.slice ad7 (xs ++ [x]).length c7, .int .i64 x.table, .int .i64 m]) (by simp only [List.map_toArray, List.map_cons, List.map_nil, x1.trans e7, e2, e3]) ((bounded_any w' hO7 htx (by omega) (by simp; omega) hbW7 hbW7).mono ?_)
      rintro e w2 ⟨a', k', c', rfl, hO8, hg8⟩
      exact ⟨_, rfl, _, rfl, ⟨hJ0.grown hg8 hJs fun k hk => by have := (hO7.block_lt k hk).1; omega, a', k', c', rfl, hO8⟩, trivial⟩
    case o9 =>
      refine LnOp.line 4 rfl rfl (fun A va w' hF hT hJ hu hd => ?_)
      have x1 : A.eval (.tmp 47) = va 8 := hT 47 8 (by simp) rfl
      exact BigFrame.wp_assign _ rfl ⟨_, rfl, ⟨x1, hJ⟩, trivial⟩
    case o10 =>
      refine LnOp.side rfl (by kernel_rfl) (fun A va w' k hF hT hk hJ hb hu hp hd => ?_)
      exact BigFrame.wp_assign _ rfl ⟨_, rfl, rfl, Below.refl _ _⟩
    case fin =>
      intro vs1 W9 hJ hG
      obtain ⟨e9, q9, a9, k9, c9, e8, hO9⟩ := hJ
      have g10 : vs1 10 = .int .i64 0 := hG 10 (by decide) rfl
      rw [e8] at e9
      clear hG
      simp only [putAll, e9, g10]
      clear e9 e8 g10
      go_simp
      go_wp2_with fail
      go_ret2
      rw [H.out]
      exact ⟨_, _, _, rfl, hO9.to (by omega) (by omega), q9⟩
end Go.Proofs.Ytcopdnigfnmnkaa
namespace Go.Proofs.Ytcopdnigfnmnkaa
open Go.RowKit Go.Shelf
section
variable {ops : Array Oper} {rest : List Oper} {o : Oper} {a : Act} {Q : Exit → Act → World → Prop} {w : World}
theorem wpList_byte1 (hP : ByP Try.prog 22 5 9) {o' : Oper} {k : Int} {d : Tmp} (ho : o.op = .buildSlice 22 1 #[(0, .const (.int .u8 k))]) (hgd' : ∀ u, Region.wanted o' (yielded ops (a.put o.dst u).tmps) = true) (hgd : Region.wanted o (yielded ops a.tmps) = true) (hd : o.dst = some d) (hlt : d < a.tmps.size)
    (ho' : o'.op = .convert 22 22 (.tmp d)) (hk : 0 ≤ k ∧ k < 256)
    (h : ∀ u g n w', Below w.heap.size w w' → Rd w'.heap.size w' (.slice (some ⟨g, 0, none⟩) n n) [UInt8.ofNat k.toNat] → wpList Try.prog ops Q rest ((a.put (some d) u).put o'.dst (.slice (some ⟨g, 0, none⟩) n n)) w') : wpList Try.prog ops Q (o :: o' :: rest) a w :=
  wpList_const hP ho hgd' hgd hd hlt ho' [UInt8.ofNat k.toNat] (by
    simp [bv, Act.eval]
    omega) rfl (by simp) h
end
theorem RdL.made {α : Type} {E : Elt α} {S : Nat → Prop} {w : World} {x : α} {us : List Value} {b : Nat} {t : TypeId} (hx : E.R S w x us) (hrow : w.heap[b]? = some (.cells us.toArray t (0, 0))) (hS : S b) : RdL E S w (.slice (some ⟨b, 0, none⟩) 1 1) [x] :=
  ⟨_, 1, rfl, Nat.le_refl _, by unfold maxLen; omega, .inr ⟨b, 0, rfl, hS, fun r h => by
    obtain rfl : r = 0 := by simpa using h
    exact ⟨us, hx, fun j u hj => by simp [World.cell?, hrow, hj]⟩⟩⟩
def aS10 : Sp := pointS 1 [97]
def bS10 : Sp := ⟨1, [98], [], true⟩
def cS10 : Sp := pointS 1 [65]
theorem add10_1 : addS [aS10] bS10 2 = ([aS10, bS10], 0) := by decide
theorem add10_2 : addS [aS10, bS10] cS10 2 = ([allS 1], 0) := by decide
theorem add10_3 : addS [aS10, bS10] ⟨4, [], [], false⟩ 2 = ([aS10, bS10], 1) := by decide
theorem RdSp.kf {n : Nat} {A B : World} {S : Nat → Prop} {v : Value} {x : Sp} (h : RdSp S A v x) (hk : KF n A B) : RdSp S B v x := by
  obtain ⟨a, c, a2, c2, e, h1, h2, h3⟩ := h
  exact ⟨a, c, a2, c2, e, h1.kf hk, h2.kf hk, h3⟩
theorem RdL.kfS {n : Nat} {A B : World} {S : Nat → Prop} {v : Value} {l : List Sp} (h : RdL Elt.sp S A v l) (hk : KF n A B) : RdL Elt.sp S B v l := by
  obtain ⟨a, cap, e, h1, h2, h3⟩ := h
  refine ⟨a, cap, e, h1, h2, h3.imp id fun ⟨b, off, ea, hb, hr⟩ => ⟨b, off, ea, hb, fun r hl => ?_⟩⟩
  obtain ⟨vs, ⟨k, u, rfl, h4, h5, h6⟩, hc⟩ := hr r hl
  exact ⟨_, ⟨k, u, rfl, h4.kf hk, h5.kf hk, h6⟩, fun j u hj => (hk.cell (cell_lt (hc j u hj))).trans (hc j u hj)⟩
def skSp {n : Nat} (x : Sp) : SGZ n := ⟨fun w v => RdSp (fun _ => True) w v x, fun _ _ _ h hk => h.kf hk⟩
def skSps {n : Nat} (l : List Sp) : SGZ n := ⟨fun w v => ∃ a c, v = .slice a l.length c ∧ RdL Elt.sp (fun _ => True) w (.slice a l.length c) l, fun _ _ _ ⟨a, c, e, h⟩ hk => ⟨a, c, e, h.kfS hk⟩⟩
theorem run_buildSp0 (w : World) : (Instr.build 24 #[]).run Try.prog w = .ok (.agg #[.int .i64 0, .slice none 0 0, .slice none 0 0, .bool false]) w := by kernel_rfl
theorem run_buildSp1 (w : World) : (Instr.build 24 #[(0, .int .i64 (-1))]).run Try.prog w = .ok (.agg #[.int .i64 (-1), .slice none 0 0, .slice none 0 0, .bool false]) w := by kernel_rfl
theorem wp_buildV {P : Program} {o : Oper} {a : Act} {K : Act → World → Prop} {Q : Exit → Act → World → Prop} {w : World} {t : TypeId} {parts : Array (Nat × Operand)} {ps : Array (Nat × Value)} {v : Value} (ho : o.op = .build t parts) (hp : (parts.map fun p => (p.1, a.eval p.2)) = ps) (hr : (Instr.build t ps).run P w = .ok v w) (h : K (a.put o.dst v) w) : o.wp P a w K Q := by
  unfold Oper.wp execOp
  simp only [ho, hp, Sem.run_bind, Sem.run_pure, Result.andThen_ok, hr]
  exact h
set_option maxRecDepth 100000 in
set_option maxHeartbeats 32000000 in
theorem awake10_any (w : World) : Calls Try.prog 8 #[] w fun e w' => e = .returned (.bool true) ∧ Below w.heap.size w w' := by
  go_enter Try.func8, Try.ntmps8
  try dsimp only [List.append]
  have q := Below.refl w.heap.size w
  go_wp2_with (first | (refine wpList_byte1 byP rfl (fun _ => rfl) rfl rfl (by first | (simp; done) | (simp [Act.put]; done)) rfl (by decide) ?_; intro u1 g1 k1 w1 hb1 hr1) | fail)
  obtain rfl : k1 = 1 := hr1.s.len.1
  replace hr1 : RdS (fun _ => True) _ (.slice (some ⟨g1, 0, none⟩) 1 1) [97] := hr1.s.weak fun _ _ => trivial
  replace q := q.trans (hb1.mono q.size)
  clear hb1
  have hcl := sPoint_any _ (t := 1) hr1 (by unfold W64; decide) (by decide)
  rw [show pointS 1 [97] = aS10 from rfl] at hcl
  refine hcl.mono ?_
  rintro e w2 ⟨vA, rfl, ⟨aA, cA, mA, nA, rfl, rlA, rhA, rtA⟩, hb⟩
  clear hcl hr1
  replace rlA : RdS (fun _ => True) _ _ _ := rlA.weak fun _ _ => trivial
  replace rhA : RdS (fun _ => True) _ _ _ := rhA.weak fun _ _ => trivial
  replace q := q.trans (hb.mono q.size)
  clear hb
  go_upto_region 2 with (first | (refine wpList_boxNew (vs := [.int .i64 0, .slice none 0 0, .slice none 0 0, .bool false]) (by kernel_rfl) rfl rfl ?_; intro wa hba hBa) | (refine wpList_boxStore (us := [.int .i64 aS10.table, .slice aA aS10.lo.length cA, .slice mA aS10.hi.length nA, .bool aS10.isOpen]) (by kernel_rfl) rfl rfl rfl rfl rfl rfl hBa rfl ?_; intro w3 hgw xA) | fail)
  try go_simp
  have hbw := hba.grown hgw hba.size fun k hk => by injection hk with hk; omega
  replace rlA := rlA.below hbw
  replace rhA := rhA.below hbw
  replace q := q.trans (hbw.mono q.size)
  clear hbw hgw hba hBa
  obtain ⟨bA, hbA⟩ : ∃ bA, bA = w2.heap.size := ⟨_, rfl⟩
  rw [← hbA] at xA
  rw [← hbA]
  clear hbA
  go_upto_region 3 with (first | (refine wpList_byte1 byP rfl (fun _ => rfl) rfl rfl (by first | (simp; done) | (simp [Act.put]; done)) rfl (by decide) ?_; intro u1 g1 k1 w1 hb1 hr1; obtain rfl : k1 = 1 := hr1.s.len.1) | (refine wpList_boxNew (vs := [.int .i64 0, .slice none 0 0, .slice none 0 0, .bool false]) (by kernel_rfl) rfl rfl ?_; intro wa hba hBa) | (refine wpList_boxStore (us := [.int .i64 1, .slice (some ⟨g1, 0, none⟩) 1 1, .slice none 0 0, .bool true]) (by kernel_rfl) rfl rfl rfl rfl rfl rfl hBa rfl ?_; intro w4 hgw xB) | fail)
  try go_simp
  replace hr1 : RdS (fun _ => True) _ (.slice (some ⟨g1, 0, none⟩) 1 1) [98] := hr1.s.weak fun _ _ => trivial
  have hbw := hba.grown hgw hba.size fun k hk => by injection hk with hk; omega
  replace rlA := rlA.below hb1
  replace rhA := rhA.below hb1
  replace xA := xA.below hb1 xA.lt
  replace q := q.trans (hb1.mono q.size)
  clear hb1
  replace rlA := rlA.below hbw
  replace rhA := rhA.below hbw
  replace xA := xA.below hbw xA.lt
  replace hr1 := hr1.below hbw
  replace q := q.trans (hbw.mono q.size)
  clear hbw hgw hba hBa
  have rlB : RdS (fun _ => True) _ (.slice (some ⟨g1, 0, none⟩) bS10.lo.length 1) bS10.lo := hr1
  clear hr1
  obtain ⟨gB, hgB⟩ : ∃ gB, gB = g1 := ⟨_, rfl⟩
  rw [← hgB] at rlB xB
  rw [← hgB]
  clear hgB
  obtain ⟨bB, hbB⟩ : ∃ bB, bB = w1.heap.size := ⟨_, rfl⟩
  rw [← hbB] at xB
  rw [← hbB]
  clear hbB
  have b0 := xA.cell (i := 0) rfl
  have b1 := xA.cell (i := 1) rfl
  have b2 := xA.cell (i := 2) rfl
  have b3 := xA.cell (i := 3) rfl
  go_wp2_with (first | (refine wpList_buildOne spP rfl rfl rfl (us := [.int .i64 aS10.table, .slice aA aS10.lo.length cA, .slice mA aS10.hi.length nA, .bool aS10.isOpen]) rfl rfl (by decide) (by decide) ?_; intro w5 hb5 hrow; have d0 := (xB.below hb5 xB.lt).cell (i := 0) rfl; have d1 := (xB.below hb5 xB.lt).cell (i := 1) rfl; have d2 := (xB.below hb5 xB.lt).cell (i := 2) rfl; have d3 := (xB.below hb5 xB.lt).cell (i := 3) rfl) | fail)
  clear b0 b1 b2 b3 d0 d1 d2 d3
  replace rlA := rlA.below hb5
  replace rhA := rhA.below hb5
  replace xA := xA.below hb5 xA.lt
  replace xB := xB.below hb5 xB.lt
  replace rlB := rlB.below hb5
  replace q := q.trans (hb5.mono q.size)
  have hl1 : RdL Elt.sp (fun _ => True) w5 (.slice (some ⟨w4.heap.size, 0, none⟩) 1 1) [aS10] := RdL.made (E := Elt.sp) ⟨_, _, rfl, rlA, rhA, rtA⟩ hrow trivial
  clear hrow hb5
  have hcl := sAdd_any w5 (x := bS10) (m := 2) hl1 (by unfold smL smS; decide) (by decide) ⟨_, _, none, 0, rfl, rlB, RdS.nil _ _, by unfold W64; decide⟩ (by unfold smS; decide)
  rw [add10_1] at hcl
  refine hcl.mono ?_
  rintro e w6 ⟨aL, kL, cL, rfl, hO, hb⟩
  obtain rfl : kL = 2 := hO.len
  have rL : RdL Elt.sp (fun _ => True) _ (.slice aL 2 cL) [aS10, bS10] := hO.rdL.weak fun _ _ => trivial
  clear hcl hO hl1
  replace rlA := rlA.below hb
  replace rhA := rhA.below hb
  replace xA := xA.below hb xA.lt
  replace xB := xB.below hb xB.lt
  replace rlB := rlB.below hb
  replace q := q.trans (hb.mono q.size)
  clear hb
  go_upto_region 4 with (fail)
  go_wp2_with (first | (refine wpList_byte1 byP rfl (fun _ => rfl) rfl rfl (by first | (simp; done) | (simp [Act.put]; done)) rfl (by decide) ?_; intro u1 g1 k1 w1 hb1 hr1) | fail)
  obtain rfl : k1 = 1 := hr1.s.len.1
  replace hr1 : RdS (fun _ => True) _ (.slice (some ⟨g1, 0, none⟩) 1 1) [65] := hr1.s.weak fun _ _ => trivial
  replace rlA := rlA.below hb1
  replace rhA := rhA.below hb1
  replace xA := xA.below hb1 xA.lt
  replace xB := xB.below hb1 xB.lt
  replace rlB := rlB.below hb1
  replace rL := rL.below hb1
  replace q := q.trans (hb1.mono q.size)
  clear hb1
  have hcl := sPoint_any _ (t := 1) hr1 (by unfold W64; decide) (by decide)
  rw [show pointS 1 [65] = cS10 from rfl] at hcl
  refine hcl.mono ?_
  rintro e w7 ⟨vC, rfl, hrC, hb⟩
  clear hcl hr1
  replace rlA := rlA.below hb
  replace rhA := rhA.below hb
  replace xA := xA.below hb xA.lt
  replace xB := xB.below hb xB.lt
  replace rlB := rlB.below hb
  replace rL := rL.below hb
  replace q := q.trans (hb.mono q.size)
  clear hb
  have hcl := sAdd_any w7 (x := cS10) (m := 2) rL (by unfold smL smS; decide) (by decide) hrC (by unfold smS; decide)
  rw [add10_2] at hcl
  go_wp2_with fail
  refine hcl.mono ?_
  rintro e w8 ⟨aM, kM, cM, rfl, hO, hb⟩
  obtain rfl : kM = 1 := hO.len
  have rM : RdL Elt.sp (fun _ => True) _ (.slice aM 1 cM) [allS 1] := hO.rdL.weak fun _ _ => trivial
  clear hcl hO hrC
  replace rlA := rlA.below hb
  replace rhA := rhA.below hb
  replace xA := xA.below hb xA.lt
  replace xB := xB.below hb xB.lt
  replace rlB := rlB.below hb
  replace rL := rL.below hb
  replace q := q.trans (hb.mono q.size)
  clear hb
  go_upto_region 5 with (fail)
  have hcl := sAdd_any w8 (x := ⟨4, [], [], false⟩) (m := 2) rL (S2 := fun _ => True) (by unfold smL smS; decide) (by decide) ⟨none, 0, none, 0, rfl, RdS.nil _ _, RdS.nil _ _, by unfold W64; decide⟩ (by unfold smS; decide)
  rw [add10_3] at hcl
  go_wp2_with fail
  refine hcl.mono ?_
  rintro e w9 ⟨aN, kN, cN, rfl, _, hb⟩
  clear hcl
  replace rlA := rlA.below hb
  replace rhA := rhA.below hb
  replace xA := xA.below hb xA.lt
  replace xB := xB.below hb xB.lt
  replace rlB := rlB.below hb
  replace rL := rL.below hb
  replace rM := rM.below hb
  replace q := q.trans (hb.mono q.size)
  clear hb
  go_upto_region 6 with (fail)
  obtain ⟨W, hWe⟩ : ∃ W, W = w9 := ⟨_, rfl⟩
  rw [← hWe] at rlA
  rw [← hWe] at rhA
  rw [← hWe] at xA
  rw [← hWe] at xB
  rw [← hWe] at rlB
  rw [← hWe] at rL
  rw [← hWe] at rM
  rw [← hWe] at q
  rw [← hWe]
  clear hWe
  have eO : ∀ args w, (callFunc 10 args).run Try.prog w = .ok (.enter 10 args) w := enters_of Try.func10 (by kernel_rfl) rfl
  have eRP : ∀ args w, (callFunc 12 args).run Try.prog w = .ok (.enter 12 args) w := enters_of Try.func12 (by kernel_rfl) rfl
  have eAl : ∀ args w, (callFunc 13 args).run Try.prog w = .ok (.enter 13 args) w := enters_of Try.func13 (by kernel_rfl) rfl
  have eS : ∀ args w, (callFunc 27 args).run Try.prog w = .ok (.enter 27 args) w := enters_of Try.func27 (by kernel_rfl) rfl
  have kq4 : Value.bool (decide (aS10 = pointS 1 [97])) = .bool true := congrArg Value.bool (decide_eq_true rfl)
  have kq9 : Value.bool (decide ([allS 1] = [allS 1])) = .bool true := congrArg Value.bool (decide_eq_true rfl)
  refine wp_region_gzg (n := W.heap.size) (by kernel_rfl) (by kernel_rfl) [skEq (.agg #[.int .i64 aS10.table, .slice aA aS10.lo.length cA, .slice mA aS10.hi.length nA, .bool aS10.isOpen]), skRow 5 [97], skRd [97], skSp (pointS 1 [97]), skEq (.bool true), skEq (.bool true), skEq (.slice aM 1 cM), skSp (allS 1), skSps [allS 1], skEq (.bool true), skEq (.bool true), skEq (.bool true)]
    ⟨?o0, ?o1, ?o2, ?o3, ?o4, ?o5, ?o6, ?o7, ?o8, ?o9, ?o10, ?o11, trivial⟩ ?fin
  case o0 =>
    refine GdOpZ.plain rfl (fun A vs w' hF hT hb hd => ?_)
    have e1 : A.eval (.tmp 1) = .pointer (some ⟨bA, 0, none⟩) := hF 1 rfl
    have hW := hb.below
    exact wp_load4 spS rfl e1 ((xA.below hW xA.lt).cell (i := 0) rfl) ((xA.below hW xA.lt).cell (i := 1) rfl) ((xA.below hW xA.lt).cell (i := 2) rfl) ((xA.below hW xA.lt).cell (i := 3) rfl) ⟨_, rfl, rfl, KF.refl _ _⟩
  case o1 =>
    refine GdOpZ.plain rfl (fun A vs w' hF hT hb hd => ?_)
    exact wp_litZ byP rfl [97] rfl rfl (by decide) hb.size
  case o2 =>
    refine GdOpZ.plain rfl (fun A vs w' hF hT hb hd => ?_)
    exact wp_convZ byP rfl (hT 38 1 (by simp) rfl) (hd ⟨1, .data⟩ (by simp) rfl) (by decide)
  case o3 =>
    refine GdOpZ.plain rfl (fun A vs w' hF hT hb hd => ?_)
    obtain ⟨a1, c1, q1, r1⟩ : ∃ a c, vs 2 = .slice a ([97] : List UInt8).length c ∧ RdS (fun _ => True) w' (.slice a ([97] : List UInt8).length c) [97] := hd ⟨2, .data⟩ (by simp) rfl
    have e1 : A.eval (.tmp 39) = .slice a1 ([97] : List UInt8).length c1 := (hT 39 2 (by simp) rfl).trans q1
    refine wp_callFn rfl eRP (args := #[.int .i64 1, .slice a1 ([97] : List UInt8).length c1]) (by simp only [List.map_toArray, List.map_cons, List.map_nil, e1]; rfl) ((rPoint_any w' (t := 1) r1 (by unfold W64; decide) (by decide)).mono ?_)
    rintro e w2 ⟨v, rfl, hrd, hb2⟩
    exact ⟨_, rfl, _, rfl, hrd.weak fun _ _ => trivial, KF.of hb2⟩
  case o4 =>
    refine GdOpZ.plain rfl (fun A vs w' hF hT hb hd => ?_)
    have e1 : A.eval (.tmp 37) = .agg #[.int .i64 aS10.table, .slice aA aS10.lo.length cA, .slice mA aS10.hi.length nA, .bool aS10.isOpen] := (hT 37 0 (by simp) rfl).trans (hd ⟨0, .data⟩ (by simp) rfl)
    have hW := hb.below
    have e1 : A.eval (.tmp 37) = .agg #[.int .i64 aS10.table, .slice aA aS10.lo.length cA, .slice mA aS10.hi.length nA, .bool aS10.isOpen] := (hT 37 0 (by simp) rfl).trans (hd ⟨0, .data⟩ (by simp) rfl)
    have r2 : RdSp (fun _ => True) w' (vs 3) (pointS 1 [97]) := hd ⟨3, .data⟩ (by simp) rfl
    have e2 : A.eval (.tmp 40) = vs 3 := hT 40 3 (by simp) rfl
    refine wp_callFn rfl eO (args := #[.agg #[.int .i64 aS10.table, .slice aA aS10.lo.length cA, .slice mA aS10.hi.length nA, .bool aS10.isOpen], vs 3]) (by simp only [List.map_toArray, List.map_cons, List.map_nil, e1, e2]) ((rOne_any w' (x := aS10) (y := pointS 1 [97]) ⟨_, _, _, _, rfl, rlA.below hW, rhA.below hW, rtA⟩ r2).mono ?_)
    rintro e w2 ⟨rfl, hb2⟩
    exact ⟨_, rfl, _, rfl, kq4, KF.of hb2⟩
  case o5 =>
    refine GdOpZ.plain rfl (fun A vs w' hF hT hb hd => ?_)
    have e1 : A.eval (.tmp 41) = .bool true := (hT 41 4 (by simp) rfl).trans (hd ⟨4, .data⟩ (by simp) rfl)
    exact BigFrame.wp_move _ rfl ⟨_, rfl, e1, KF.refl _ _⟩
  case o6 =>
    refine GdOpZ.taken rfl ⟨_, _, rfl, rfl, by simp⟩ (by kernel_rfl) (fun w v h => h) (fun A vs w' hF hT hb hd => ?_)
    have e1 : A.eval (.tmp 5) = .slice aM 1 cM := hF 5 rfl
    exact BigFrame.wp_move _ rfl ⟨_, rfl, e1, KF.refl _ _⟩
  case o7 =>
    refine GdOpZ.taken rfl ⟨_, _, rfl, rfl, by simp⟩ (by kernel_rfl) (fun w v h => h) (fun A vs w' hF hT hb hd => ?_)
    refine wp_callFn rfl eAl (args := #[.int .i64 1]) (by simp only [List.map_toArray, List.map_cons, List.map_nil]; rfl) ((sAll_any w' (t := 1) (by unfold W64; decide)).mono ?_)
    rintro e w2 ⟨v, rfl, hrd, hb2⟩
    exact ⟨_, rfl, _, rfl, hrd.weak fun _ _ => trivial, KF.of hb2⟩
  case o8 =>
    refine GdOpZ.taken rfl ⟨_, _, rfl, rfl, by simp⟩ (by kernel_rfl) (fun w v h => h) (fun A vs w' hF hT hb hd => ?_)
    have r1 : RdSp (fun _ => True) w' (vs 7) (allS 1) := hd ⟨7, .data⟩ (by simp) rfl
    have e1 : A.eval (.tmp 44) = vs 7 := hT 44 7 (by simp) rfl
    obtain ⟨p1, p2, p3, p4, ev, h1, h2, h3⟩ := r1
    have hbn := (Below.refl w'.heap.size w').alloc (Nat.le_refl _) (.cells #[.int .i64 (allS 1).table, .slice p1 (allS 1).lo.length p2, .slice p3 (allS 1).hi.length p4, .bool (allS 1).isOpen] 24)
    exact wp_buildOne spP rfl (e1.trans ev) rfl rfl (by omega) (by omega) ⟨_, rfl, ⟨_, _, rfl, RdL.made (E := Elt.sp) (us := [.int .i64 (allS 1).table, .slice p1 (allS 1).lo.length p2, .slice p3 (allS 1).hi.length p4, .bool (allS 1).isOpen]) (t := 24) ⟨_, _, rfl, h1.below hbn, h2.below hbn, h3⟩ (by simp only [World.alloc, Array.getElem?_push_size]) trivial⟩, KF.of hbn⟩
  case o9 =>
    refine GdOpZ.taken rfl ⟨_, _, rfl, rfl, by simp⟩ (by kernel_rfl) (fun w v h => h) (fun A vs w' hF hT hb hd => ?_)
    have e1 : A.eval (.tmp 43) = .slice aM 1 cM := (hT 43 6 (by simp) rfl).trans (hd ⟨6, .data⟩ (by simp) rfl)
    have hW := hb.below
    have e1 : A.eval (.tmp 43) = .slice aM 1 cM := (hT 43 6 (by simp) rfl).trans (hd ⟨6, .data⟩ (by simp) rfl)
    obtain ⟨a2, c2, q2, r2⟩ : ∃ a c, vs 8 = .slice a ([allS 1] : List Sp).length c ∧ RdL Elt.sp (fun _ => True) w' (.slice a ([allS 1] : List Sp).length c) [allS 1] := hd ⟨8, .data⟩ (by simp) rfl
    have e2 : A.eval (.tmp 45) = .slice a2 ([allS 1] : List Sp).length c2 := (hT 45 8 (by simp) rfl).trans q2
    refine wp_callFn rfl eS (args := #[.slice aM 1 cM, .slice a2 ([allS 1] : List Sp).length c2]) (by simp only [List.map_toArray, List.map_cons, List.map_nil, e1, e2]) ((rSame_any w' (rM.below hW) r2).mono ?_)
    rintro e w2 ⟨rfl, hb2⟩
    exact ⟨_, rfl, _, rfl, kq9, KF.of hb2⟩
  case o10 =>
    refine GdOpZ.plain rfl (fun A vs w' hF hT hb hd => ?_)
    have e1 : A.eval (.tmp 42) = .bool true := (hT 42 5 (by simp) rfl).trans (hd ⟨5, .data⟩ (by simp) rfl)
    have e2 : A.eval (.tmp 46) = .bool true := (hT 46 9 (by simp) rfl).trans (hd ⟨9, .data⟩ (by simp) rfl)
    exact wp_pk rfl e1 (fun _ => e2) (by simp) ⟨_, rfl, rfl, KF.refl _ _⟩
  case o11 =>
    refine GdOpZ.plain rfl (fun A vs w' hF hT hb hd => ?_)
    have e1 : A.eval (.tmp 47) = .bool true := (hT 47 10 (by simp) rfl).trans (hd ⟨10, .data⟩ (by simp) rfl)
    exact BigFrame.wp_assign _ rfl ⟨_, rfl, e1, KF.refl _ _⟩
  case fin =>
  intro vs9 W9 hb9 hG9
  have e0 : vs9 0 = .agg #[.int .i64 aS10.table, .slice aA aS10.lo.length cA, .slice mA aS10.hi.length nA, .bool aS10.isOpen] := hG9 0 (by decide)
  obtain ⟨y1, z1, e1, _⟩ := hG9 1 (by decide)
  obtain ⟨y2, z2, e2, _⟩ := hG9 2 (by decide)
  obtain ⟨y3, z3, y23, z23, e3, _⟩ := hG9 3 (by decide)
  have e4 : vs9 4 = .bool true := hG9 4 (by decide)
  have e5 : vs9 5 = .bool true := hG9 5 (by decide)
  have e6 : vs9 6 = .slice aM 1 cM := hG9 6 (by decide)
  obtain ⟨y7, z7, y27, z27, e7, _⟩ := hG9 7 (by decide)
  obtain ⟨y8, z8, e8, _⟩ := hG9 8 (by decide)
  have e9 : vs9 9 = .bool true := hG9 9 (by decide)
  have e10 : vs9 10 = .bool true := hG9 10 (by decide)
  have e11 : vs9 11 = .bool true := hG9 11 (by decide)
  simp only [putAll, e0, e1, e2, e3, e4, e5, e6, e7, e8, e9, e10, e11]
  clear hG9 e0 e1 e2 e3 e4 e5 e6 e7 e8 e9 e10 e11
  have hb8 := hb9.below
  replace rlA := rlA.below hb8
  replace rhA := rhA.below hb8
  replace xA := xA.below hb8 xA.lt
  replace xB := xB.below hb8 xB.lt
  replace rlB := rlB.below hb8
  replace rL := rL.below hb8
  replace rM := rM.below hb8
  replace q := q.trans (hb8.mono q.size)
  clear hb9 hb8
  go_simp
  go_upto_region 7 with (fail)
  have eAl : ∀ args w, (callFunc 13 args).run Try.prog w = .ok (.enter 13 args) w := enters_of Try.func13 (by kernel_rfl) rfl
  have eK : ∀ args w, (callFunc 14 args).run Try.prog w = .ok (.enter 14 args) w := enters_of Try.func14 (by kernel_rfl) rfl
  have eE : ∀ args w, (callFunc 16 args).run Try.prog w = .ok (.enter 16 args) w := enters_of Try.func16 (by kernel_rfl) rfl
  have eI : ∀ args w, (callFunc 18 args).run Try.prog w = .ok (.enter 18 args) w := enters_of Try.func18 (by kernel_rfl) rfl
  have eM : ∀ args w, (callFunc 20 args).run Try.prog w = .ok (.enter 20 args) w := enters_of Try.func20 (by kernel_rfl) rfl
  have eC : ∀ args w, (callFunc 22 args).run Try.prog w = .ok (.enter 22 args) w := enters_of Try.func22 (by kernel_rfl) rfl
  have kq4 : Value.bool (meetsS (aS10) (bS10)) = .bool false := congrArg Value.bool (by decide)
  have kq10 : Value.bool (meetsS (bS10) (allS 1)) = .bool true := congrArg Value.bool (by decide)
  have kq15 : Value.bool (coversS (allS 1) (aS10)) = .bool true := congrArg Value.bool (by decide)
  have kq20 : Value.bool (coversS (aS10) (bS10)) = .bool false := congrArg Value.bool (by decide)
  have kq44 : Value.bool (inT aS10 1 [97]) = .bool true := congrArg Value.bool (by decide)
  have kq50 : Value.bool (inT aS10 0 [97]) = .bool false := congrArg Value.bool (by decide)
  have kq55 : Value.bool (emptyS (⟨0, [], [], false⟩)) = .bool true := congrArg Value.bool (by decide)
  have kq59 : Value.bool (emptyS (bS10)) = .bool false := congrArg Value.bool (by decide)
  have kq64 : Value.bool (decide (mayS (bS10))) = .bool true := congrArg Value.bool (decide_eq_true (by decide))
  have kq68 : Value.bool (decide (mayS (⟨-1, [], [], false⟩))) = .bool false := congrArg Value.bool (decide_eq_false (by decide))
  refine wp_region_gza (n := W9.heap.size) (by kernel_rfl) (by kernel_rfl) [skEq (.bool true), skEq (.bool true), skEq (.agg #[.int .i64 aS10.table, .slice aA aS10.lo.length cA, .slice mA aS10.hi.length nA, .bool aS10.isOpen]), skEq (.agg #[.int .i64 1, .slice (some ⟨gB, 0, none⟩) 1 1, .slice none 0 0, .bool true]), skEq (.bool false), skEq (.bool true), skEq (.bool true), skEq (.bool true), skEq (.agg #[.int .i64 1, .slice (some ⟨gB, 0, none⟩) 1 1, .slice none 0 0, .bool true]), skSp (allS 1), skEq (.bool true), skEq (.bool true), skEq (.bool true), skSp (allS 1), skEq (.agg #[.int .i64 aS10.table, .slice aA aS10.lo.length cA, .slice mA aS10.hi.length nA, .bool aS10.isOpen]), skEq (.bool true), skEq (.bool true), skEq (.bool true), skEq (.agg #[.int .i64 aS10.table, .slice aA aS10.lo.length cA, .slice mA aS10.hi.length nA, .bool aS10.isOpen]), skEq (.agg #[.int .i64 1, .slice (some ⟨gB, 0, none⟩) 1 1, .slice none 0 0, .bool true]), skEq (.bool false), skEq (.bool true), skEq (.bool true), skEq (.bool true), skEq (.slice aL 2 cL), skEq (.int .i64 ((2 : Nat) : Int)), skEq (.bool true), skEq (.bool true), skEq (.bool true), skEq (.int .i64 ((0 : Nat) : Int)), skEq (.bool true), skEq (.bool true), skEq (.bool true), skEq (.int .i64 ((0 : Nat) : Int)), skEq (.bool true), skEq (.bool true), skEq (.bool true), skEq (.int .i64 ((1 : Nat) : Int)), skEq (.bool true), skEq (.bool true), skEq (.bool true), skEq (.agg #[.int .i64 aS10.table, .slice aA aS10.lo.length cA, .slice mA aS10.hi.length nA, .bool aS10.isOpen]), skRow 5 [97], skRd [97], skEq (.bool true), skEq (.bool true), skEq (.bool true), skEq (.agg #[.int .i64 aS10.table, .slice aA aS10.lo.length cA, .slice mA aS10.hi.length nA, .bool aS10.isOpen]), skRow 5 [97], skRd [97], skEq (.bool false), skEq (.bool true), skEq (.bool true), skEq (.bool true), skEq (.agg #[.int .i64 (0), .slice none 0 0, .slice none 0 0, .bool false]), skEq (.bool true), skEq (.bool true), skEq (.bool true), skEq (.agg #[.int .i64 1, .slice (some ⟨gB, 0, none⟩) 1 1, .slice none 0 0, .bool true]), skEq (.bool false), skEq (.bool true), skEq (.bool true), skEq (.bool true), skEq (.agg #[.int .i64 1, .slice (some ⟨gB, 0, none⟩) 1 1, .slice none 0 0, .bool true]), skEq (.bool true), skEq (.bool true), skEq (.bool true), skEq (.agg #[.int .i64 (-1), .slice none 0 0, .slice none 0 0, .bool false]), skEq (.bool false), skEq (.bool true), skEq (.bool true), skEq (.bool true)]
    ⟨?o0, ?o1, ?o2, ?o3, ?o4, ?o5, ?o6, ?o7, ?o8, ?o9, ?o10, ?o11, ?o12, ?o13, ?o14, ?o15, ?o16, ?o17, ?o18, ?o19, ?o20, ?o21, ?o22, ?o23, ?o24, ?o25, ?o26, ?o27, ?o28, ?o29, ?o30, ?o31, ?o32, ?o33, ?o34, ?o35, ?o36, ?o37, ?o38, ?o39, ?o40, ?o41, ?o42, ?o43, ?o44, ?o45, ?o46, ?o47, ?o48, ?o49, ?o50, ?o51, ?o52, ?o53, ?o54, ?o55, ?o56, ?o57, ?o58, ?o59, ?o60, ?o61, ?o62, ?o63, ?o64, ?o65, ?o66, ?o67, ?o68, ?o69, ?o70, ?o71, trivial⟩ ?fin
  case o0 =>
    refine GdOpZ.plain rfl (fun A vs w' hF hT hb hd => ?_)
    have e1 : A.eval (.tmp 9) = .bool true := hF 9 rfl
    exact BigFrame.wp_move _ rfl ⟨_, rfl, e1, KF.refl _ _⟩
  case o1 =>
    refine GdOpZ.plain rfl (fun A vs w' hF hT hb hd => ?_)
    have e1 : A.eval (.tmp 48) = .bool true := (hT 48 0 (by simp) rfl).trans (hd ⟨0, .data⟩ (by simp) rfl)
    exact BigFrame.wp_move _ rfl ⟨_, rfl, e1, KF.refl _ _⟩
  case o2 =>
    refine GdOpZ.taken rfl ⟨_, _, rfl, rfl, by simp⟩ (by kernel_rfl) (fun w v h => h) (fun A vs w' hF hT hb hd => ?_)
    have e1 : A.eval (.tmp 1) = .pointer (some ⟨bA, 0, none⟩) := hF 1 rfl
    have hW := hb.below
    exact wp_load4 spS rfl e1 ((xA.below hW xA.lt).cell (i := 0) rfl) ((xA.below hW xA.lt).cell (i := 1) rfl) ((xA.below hW xA.lt).cell (i := 2) rfl) ((xA.below hW xA.lt).cell (i := 3) rfl) ⟨_, rfl, rfl, KF.refl _ _⟩
  case o3 =>
    refine GdOpZ.taken rfl ⟨_, _, rfl, rfl, by simp⟩ (by kernel_rfl) (fun w v h => h) (fun A vs w' hF hT hb hd => ?_)
    have e1 : A.eval (.tmp 2) = .pointer (some ⟨bB, 0, none⟩) := hF 2 rfl
    have hW := hb.below
    exact wp_load4 spS rfl e1 ((xB.below hW xB.lt).cell (i := 0) rfl) ((xB.below hW xB.lt).cell (i := 1) rfl) ((xB.below hW xB.lt).cell (i := 2) rfl) ((xB.below hW xB.lt).cell (i := 3) rfl) ⟨_, rfl, rfl, KF.refl _ _⟩
  case o4 =>
    refine GdOpZ.taken rfl ⟨_, _, rfl, rfl, by simp⟩ (by kernel_rfl) (fun w v h => h) (fun A vs w' hF hT hb hd => ?_)
    have e1 : A.eval (.tmp 50) = .agg #[.int .i64 aS10.table, .slice aA aS10.lo.length cA, .slice mA aS10.hi.length nA, .bool aS10.isOpen] := (hT 50 2 (by simp) rfl).trans (hd ⟨2, .data⟩ (by simp) rfl)
    have e2 : A.eval (.tmp 51) = .agg #[.int .i64 1, .slice (some ⟨gB, 0, none⟩) 1 1, .slice none 0 0, .bool true] := (hT 51 3 (by simp) rfl).trans (hd ⟨3, .data⟩ (by simp) rfl)
    have hW := hb.below
    have e1 : A.eval (.tmp 50) = .agg #[.int .i64 aS10.table, .slice aA aS10.lo.length cA, .slice mA aS10.hi.length nA, .bool aS10.isOpen] := (hT 50 2 (by simp) rfl).trans (hd ⟨2, .data⟩ (by simp) rfl)
    have e2 : A.eval (.tmp 51) = .agg #[.int .i64 1, .slice (some ⟨gB, 0, none⟩) 1 1, .slice none 0 0, .bool true] := (hT 51 3 (by simp) rfl).trans (hd ⟨3, .data⟩ (by simp) rfl)
    refine wp_callFn rfl eM (args := #[.agg #[.int .i64 aS10.table, .slice aA aS10.lo.length cA, .slice mA aS10.hi.length nA, .bool aS10.isOpen], .agg #[.int .i64 1, .slice (some ⟨gB, 0, none⟩) 1 1, .slice none 0 0, .bool true]]) (by simp only [List.map_toArray, List.map_cons, List.map_nil, e1, e2]) ((sMeets_any w' (x := aS10) (y := bS10) ⟨_, _, _, _, rfl, rlA.below hW, rhA.below hW, rtA⟩ ⟨_, _, none, 0, rfl, rlB.below hW, RdS.nil _ _, by unfold W64; decide⟩).mono ?_)
    rintro e w2 ⟨rfl, hb2⟩
    exact ⟨_, rfl, _, rfl, kq4, KF.of hb2⟩
  case o5 =>
    refine GdOpZ.taken rfl ⟨_, _, rfl, rfl, by simp⟩ (by kernel_rfl) (fun w v h => h) (fun A vs w' hF hT hb hd => ?_)
    have e1 : A.eval (.tmp 52) = .bool false := (hT 52 4 (by simp) rfl).trans (hd ⟨4, .data⟩ (by simp) rfl)
    exact wp_notB rfl e1 ⟨_, rfl, rfl, KF.refl _ _⟩
  case o6 =>
    refine GdOpZ.plain rfl (fun A vs w' hF hT hb hd => ?_)
    have e1 : A.eval (.tmp 49) = .bool true := (hT 49 1 (by simp) rfl).trans (hd ⟨1, .data⟩ (by simp) rfl)
    have e2 : A.eval (.tmp 53) = .bool true := (hT 53 5 (by simp) rfl).trans (hd ⟨5, .data⟩ (by simp) rfl)
    exact wp_pk rfl e1 (fun _ => e2) (by simp) ⟨_, rfl, rfl, KF.refl _ _⟩
  case o7 =>
    refine GdOpZ.plain rfl (fun A vs w' hF hT hb hd => ?_)
    have e1 : A.eval (.tmp 54) = .bool true := (hT 54 6 (by simp) rfl).trans (hd ⟨6, .data⟩ (by simp) rfl)
    exact BigFrame.wp_move _ rfl ⟨_, rfl, e1, KF.refl _ _⟩
  case o8 =>
    refine GdOpZ.taken rfl ⟨_, _, rfl, rfl, by simp⟩ (by kernel_rfl) (fun w v h => h) (fun A vs w' hF hT hb hd => ?_)
    have e1 : A.eval (.tmp 2) = .pointer (some ⟨bB, 0, none⟩) := hF 2 rfl
    have hW := hb.below
    exact wp_load4 spS rfl e1 ((xB.below hW xB.lt).cell (i := 0) rfl) ((xB.below hW xB.lt).cell (i := 1) rfl) ((xB.below hW xB.lt).cell (i := 2) rfl) ((xB.below hW xB.lt).cell (i := 3) rfl) ⟨_, rfl, rfl, KF.refl _ _⟩
  case o9 =>
    refine GdOpZ.taken rfl ⟨_, _, rfl, rfl, by simp⟩ (by kernel_rfl) (fun w v h => h) (fun A vs w' hF hT hb hd => ?_)
    refine wp_callFn rfl eAl (args := #[.int .i64 1]) (by simp only [List.map_toArray, List.map_cons, List.map_nil]; rfl) ((sAll_any w' (t := 1) (by unfold W64; decide)).mono ?_)
    rintro e w2 ⟨v, rfl, hrd, hb2⟩
    exact ⟨_, rfl, _, rfl, hrd.weak fun _ _ => trivial, KF.of hb2⟩
  case o10 =>
    refine GdOpZ.taken rfl ⟨_, _, rfl, rfl, by simp⟩ (by kernel_rfl) (fun w v h => h) (fun A vs w' hF hT hb hd => ?_)
    have e1 : A.eval (.tmp 56) = .agg #[.int .i64 1, .slice (some ⟨gB, 0, none⟩) 1 1, .slice none 0 0, .bool true] := (hT 56 8 (by simp) rfl).trans (hd ⟨8, .data⟩ (by simp) rfl)
    have hW := hb.below
    have e1 : A.eval (.tmp 56) = .agg #[.int .i64 1, .slice (some ⟨gB, 0, none⟩) 1 1, .slice none 0 0, .bool true] := (hT 56 8 (by simp) rfl).trans (hd ⟨8, .data⟩ (by simp) rfl)
    have r2 : RdSp (fun _ => True) w' (vs 9) (allS 1) := hd ⟨9, .data⟩ (by simp) rfl
    have e2 : A.eval (.tmp 57) = vs 9 := hT 57 9 (by simp) rfl
    refine wp_callFn rfl eM (args := #[.agg #[.int .i64 1, .slice (some ⟨gB, 0, none⟩) 1 1, .slice none 0 0, .bool true], vs 9]) (by simp only [List.map_toArray, List.map_cons, List.map_nil, e1, e2]) ((sMeets_any w' (x := bS10) (y := allS 1) ⟨_, _, none, 0, rfl, rlB.below hW, RdS.nil _ _, by unfold W64; decide⟩ r2).mono ?_)
    rintro e w2 ⟨rfl, hb2⟩
    exact ⟨_, rfl, _, rfl, kq10, KF.of hb2⟩
  case o11 =>
    refine GdOpZ.plain rfl (fun A vs w' hF hT hb hd => ?_)
    have e1 : A.eval (.tmp 55) = .bool true := (hT 55 7 (by simp) rfl).trans (hd ⟨7, .data⟩ (by simp) rfl)
    have e2 : A.eval (.tmp 58) = .bool true := (hT 58 10 (by simp) rfl).trans (hd ⟨10, .data⟩ (by simp) rfl)
    exact wp_pk rfl e1 (fun _ => e2) (by simp) ⟨_, rfl, rfl, KF.refl _ _⟩
  case o12 =>
    refine GdOpZ.plain rfl (fun A vs w' hF hT hb hd => ?_)
    have e1 : A.eval (.tmp 59) = .bool true := (hT 59 11 (by simp) rfl).trans (hd ⟨11, .data⟩ (by simp) rfl)
    exact BigFrame.wp_move _ rfl ⟨_, rfl, e1, KF.refl _ _⟩
  case o13 =>
    refine GdOpZ.taken rfl ⟨_, _, rfl, rfl, by simp⟩ (by kernel_rfl) (fun w v h => h) (fun A vs w' hF hT hb hd => ?_)
    refine wp_callFn rfl eAl (args := #[.int .i64 1]) (by simp only [List.map_toArray, List.map_cons, List.map_nil]; rfl) ((sAll_any w' (t := 1) (by unfold W64; decide)).mono ?_)
    rintro e w2 ⟨v, rfl, hrd, hb2⟩
    exact ⟨_, rfl, _, rfl, hrd.weak fun _ _ => trivial, KF.of hb2⟩
  case o14 =>
    refine GdOpZ.taken rfl ⟨_, _, rfl, rfl, by simp⟩ (by kernel_rfl) (fun w v h => h) (fun A vs w' hF hT hb hd => ?_)
    have e1 : A.eval (.tmp 1) = .pointer (some ⟨bA, 0, none⟩) := hF 1 rfl
    have hW := hb.below
    exact wp_load4 spS rfl e1 ((xA.below hW xA.lt).cell (i := 0) rfl) ((xA.below hW xA.lt).cell (i := 1) rfl) ((xA.below hW xA.lt).cell (i := 2) rfl) ((xA.below hW xA.lt).cell (i := 3) rfl) ⟨_, rfl, rfl, KF.refl _ _⟩
  case o15 =>
    refine GdOpZ.taken rfl ⟨_, _, rfl, rfl, by simp⟩ (by kernel_rfl) (fun w v h => h) (fun A vs w' hF hT hb hd => ?_)
    have e2 : A.eval (.tmp 62) = .agg #[.int .i64 aS10.table, .slice aA aS10.lo.length cA, .slice mA aS10.hi.length nA, .bool aS10.isOpen] := (hT 62 14 (by simp) rfl).trans (hd ⟨14, .data⟩ (by simp) rfl)
    have hW := hb.below
    have r1 : RdSp (fun _ => True) w' (vs 13) (allS 1) := hd ⟨13, .data⟩ (by simp) rfl
    have e1 : A.eval (.tmp 61) = vs 13 := hT 61 13 (by simp) rfl
    have e2 : A.eval (.tmp 62) = .agg #[.int .i64 aS10.table, .slice aA aS10.lo.length cA, .slice mA aS10.hi.length nA, .bool aS10.isOpen] := (hT 62 14 (by simp) rfl).trans (hd ⟨14, .data⟩ (by simp) rfl)
    refine wp_callFn rfl eC (args := #[vs 13, .agg #[.int .i64 aS10.table, .slice aA aS10.lo.length cA, .slice mA aS10.hi.length nA, .bool aS10.isOpen]]) (by simp only [List.map_toArray, List.map_cons, List.map_nil, e1, e2]) ((sCovers_any w' (x := allS 1) (y := aS10) r1 ⟨_, _, _, _, rfl, rlA.below hW, rhA.below hW, rtA⟩).mono ?_)
    rintro e w2 ⟨rfl, hb2⟩
    exact ⟨_, rfl, _, rfl, kq15, KF.of hb2⟩
  case o16 =>
    refine GdOpZ.plain rfl (fun A vs w' hF hT hb hd => ?_)
    have e1 : A.eval (.tmp 60) = .bool true := (hT 60 12 (by simp) rfl).trans (hd ⟨12, .data⟩ (by simp) rfl)
    have e2 : A.eval (.tmp 63) = .bool true := (hT 63 15 (by simp) rfl).trans (hd ⟨15, .data⟩ (by simp) rfl)
    exact wp_pk rfl e1 (fun _ => e2) (by simp) ⟨_, rfl, rfl, KF.refl _ _⟩
  case o17 =>
    refine GdOpZ.plain rfl (fun A vs w' hF hT hb hd => ?_)
    have e1 : A.eval (.tmp 64) = .bool true := (hT 64 16 (by simp) rfl).trans (hd ⟨16, .data⟩ (by simp) rfl)
    exact BigFrame.wp_move _ rfl ⟨_, rfl, e1, KF.refl _ _⟩
  case o18 =>
    refine GdOpZ.taken rfl ⟨_, _, rfl, rfl, by simp⟩ (by kernel_rfl) (fun w v h => h) (fun A vs w' hF hT hb hd => ?_)
    have e1 : A.eval (.tmp 1) = .pointer (some ⟨bA, 0, none⟩) := hF 1 rfl
    have hW := hb.below
    exact wp_load4 spS rfl e1 ((xA.below hW xA.lt).cell (i := 0) rfl) ((xA.below hW xA.lt).cell (i := 1) rfl) ((xA.below hW xA.lt).cell (i := 2) rfl) ((xA.below hW xA.lt).cell (i := 3) rfl) ⟨_, rfl, rfl, KF.refl _ _⟩
  case o19 =>
    refine GdOpZ.taken rfl ⟨_, _, rfl, rfl, by simp⟩ (by kernel_rfl) (fun w v h => h) (fun A vs w' hF hT hb hd => ?_)
    have e1 : A.eval (.tmp 2) = .pointer (some ⟨bB, 0, none⟩) := hF 2 rfl
    have hW := hb.below
    exact wp_load4 spS rfl e1 ((xB.below hW xB.lt).cell (i := 0) rfl) ((xB.below hW xB.lt).cell (i := 1) rfl) ((xB.below hW xB.lt).cell (i := 2) rfl) ((xB.below hW xB.lt).cell (i := 3) rfl) ⟨_, rfl, rfl, KF.refl _ _⟩
  case o20 =>
    refine GdOpZ.taken rfl ⟨_, _, rfl, rfl, by simp⟩ (by kernel_rfl) (fun w v h => h) (fun A vs w' hF hT hb hd => ?_)
    have e1 : A.eval (.tmp 66) = .agg #[.int .i64 aS10.table, .slice aA aS10.lo.length cA, .slice mA aS10.hi.length nA, .bool aS10.isOpen] := (hT 66 18 (by simp) rfl).trans (hd ⟨18, .data⟩ (by simp) rfl)
    have e2 : A.eval (.tmp 67) = .agg #[.int .i64 1, .slice (some ⟨gB, 0, none⟩) 1 1, .slice none 0 0, .bool true] := (hT 67 19 (by simp) rfl).trans (hd ⟨19, .data⟩ (by simp) rfl)
    have hW := hb.below
    have e1 : A.eval (.tmp 66) = .agg #[.int .i64 aS10.table, .slice aA aS10.lo.length cA, .slice mA aS10.hi.length nA, .bool aS10.isOpen] := (hT 66 18 (by simp) rfl).trans (hd ⟨18, .data⟩ (by simp) rfl)
    have e2 : A.eval (.tmp 67) = .agg #[.int .i64 1, .slice (some ⟨gB, 0, none⟩) 1 1, .slice none 0 0, .bool true] := (hT 67 19 (by simp) rfl).trans (hd ⟨19, .data⟩ (by simp) rfl)
    refine wp_callFn rfl eC (args := #[.agg #[.int .i64 aS10.table, .slice aA aS10.lo.length cA, .slice mA aS10.hi.length nA, .bool aS10.isOpen], .agg #[.int .i64 1, .slice (some ⟨gB, 0, none⟩) 1 1, .slice none 0 0, .bool true]]) (by simp only [List.map_toArray, List.map_cons, List.map_nil, e1, e2]) ((sCovers_any w' (x := aS10) (y := bS10) ⟨_, _, _, _, rfl, rlA.below hW, rhA.below hW, rtA⟩ ⟨_, _, none, 0, rfl, rlB.below hW, RdS.nil _ _, by unfold W64; decide⟩).mono ?_)
    rintro e w2 ⟨rfl, hb2⟩
    exact ⟨_, rfl, _, rfl, kq20, KF.of hb2⟩
  case o21 =>
    refine GdOpZ.taken rfl ⟨_, _, rfl, rfl, by simp⟩ (by kernel_rfl) (fun w v h => h) (fun A vs w' hF hT hb hd => ?_)
    have e1 : A.eval (.tmp 68) = .bool false := (hT 68 20 (by simp) rfl).trans (hd ⟨20, .data⟩ (by simp) rfl)
    exact wp_notB rfl e1 ⟨_, rfl, rfl, KF.refl _ _⟩
  case o22 =>
    refine GdOpZ.plain rfl (fun A vs w' hF hT hb hd => ?_)
    have e1 : A.eval (.tmp 65) = .bool true := (hT 65 17 (by simp) rfl).trans (hd ⟨17, .data⟩ (by simp) rfl)
    have e2 : A.eval (.tmp 69) = .bool true := (hT 69 21 (by simp) rfl).trans (hd ⟨21, .data⟩ (by simp) rfl)
    exact wp_pk rfl e1 (fun _ => e2) (by simp) ⟨_, rfl, rfl, KF.refl _ _⟩
  case o23 =>
    refine GdOpZ.plain rfl (fun A vs w' hF hT hb hd => ?_)
    have e1 : A.eval (.tmp 70) = .bool true := (hT 70 22 (by simp) rfl).trans (hd ⟨22, .data⟩ (by simp) rfl)
    exact BigFrame.wp_move _ rfl ⟨_, rfl, e1, KF.refl _ _⟩
  case o24 =>
    refine GdOpZ.taken rfl ⟨_, _, rfl, rfl, by simp⟩ (by kernel_rfl) (fun w v h => h) (fun A vs w' hF hT hb hd => ?_)
    have e1 : A.eval (.tmp 3) = .slice aL 2 cL := hF 3 rfl
    exact BigFrame.wp_move _ rfl ⟨_, rfl, e1, KF.refl _ _⟩
  case o25 =>
    refine GdOpZ.taken rfl ⟨_, _, rfl, rfl, by simp⟩ (by kernel_rfl) (fun w v h => h) (fun A vs w' hF hT hb hd => ?_)
    have e1 : A.eval (.tmp 72) = .slice aL 2 cL := (hT 72 24 (by simp) rfl).trans (hd ⟨24, .data⟩ (by simp) rfl)
    exact wp_lenS (e := 24) rfl (by kernel_rfl) e1 ⟨_, rfl, rfl, KF.refl _ _⟩
  case o26 =>
    refine GdOpZ.taken rfl ⟨_, _, rfl, rfl, by simp⟩ (by kernel_rfl) (fun w v h => h) (fun A vs w' hF hT hb hd => ?_)
    have e1 : A.eval (.tmp 73) = .int .i64 ((2 : Nat) : Int) := (hT 73 25 (by simp) rfl).trans (hd ⟨25, .data⟩ (by simp) rfl)
    exact wp_eqlI rfl e1 rfl ⟨_, rfl, (congrArg Value.bool (decide_eq_true rfl)), KF.refl _ _⟩
  case o27 =>
    refine GdOpZ.plain rfl (fun A vs w' hF hT hb hd => ?_)
    have e1 : A.eval (.tmp 71) = .bool true := (hT 71 23 (by simp) rfl).trans (hd ⟨23, .data⟩ (by simp) rfl)
    have e2 : A.eval (.tmp 74) = .bool true := (hT 74 26 (by simp) rfl).trans (hd ⟨26, .data⟩ (by simp) rfl)
    exact wp_pk rfl e1 (fun _ => e2) (by simp) ⟨_, rfl, rfl, KF.refl _ _⟩
  case o28 =>
    refine GdOpZ.plain rfl (fun A vs w' hF hT hb hd => ?_)
    have e1 : A.eval (.tmp 75) = .bool true := (hT 75 27 (by simp) rfl).trans (hd ⟨27, .data⟩ (by simp) rfl)
    exact BigFrame.wp_move _ rfl ⟨_, rfl, e1, KF.refl _ _⟩
  case o29 =>
    refine GdOpZ.taken rfl ⟨_, _, rfl, rfl, by simp⟩ (by kernel_rfl) (fun w v h => h) (fun A vs w' hF hT hb hd => ?_)
    have e1 : A.eval (.tmp 4) = .int .i64 ((0 : Nat) : Int) := hF 4 rfl
    exact BigFrame.wp_move _ rfl ⟨_, rfl, e1, KF.refl _ _⟩
  case o30 =>
    refine GdOpZ.taken rfl ⟨_, _, rfl, rfl, by simp⟩ (by kernel_rfl) (fun w v h => h) (fun A vs w' hF hT hb hd => ?_)
    have e1 : A.eval (.tmp 77) = .int .i64 ((0 : Nat) : Int) := (hT 77 29 (by simp) rfl).trans (hd ⟨29, .data⟩ (by simp) rfl)
    exact wp_eqlI rfl e1 rfl ⟨_, rfl, (congrArg Value.bool (decide_eq_true rfl)), KF.refl _ _⟩
  case o31 =>
    refine GdOpZ.plain rfl (fun A vs w' hF hT hb hd => ?_)
    have e1 : A.eval (.tmp 76) = .bool true := (hT 76 28 (by simp) rfl).trans (hd ⟨28, .data⟩ (by simp) rfl)
    have e2 : A.eval (.tmp 78) = .bool true := (hT 78 30 (by simp) rfl).trans (hd ⟨30, .data⟩ (by simp) rfl)
    exact wp_pk rfl e1 (fun _ => e2) (by simp) ⟨_, rfl, rfl, KF.refl _ _⟩
  case o32 =>
    refine GdOpZ.plain rfl (fun A vs w' hF hT hb hd => ?_)
    have e1 : A.eval (.tmp 79) = .bool true := (hT 79 31 (by simp) rfl).trans (hd ⟨31, .data⟩ (by simp) rfl)
    exact BigFrame.wp_move _ rfl ⟨_, rfl, e1, KF.refl _ _⟩
  case o33 =>
    refine GdOpZ.taken rfl ⟨_, _, rfl, rfl, by simp⟩ (by kernel_rfl) (fun w v h => h) (fun A vs w' hF hT hb hd => ?_)
    have e1 : A.eval (.tmp 6) = .int .i64 ((0 : Nat) : Int) := hF 6 rfl
    exact BigFrame.wp_move _ rfl ⟨_, rfl, e1, KF.refl _ _⟩
  case o34 =>
    refine GdOpZ.taken rfl ⟨_, _, rfl, rfl, by simp⟩ (by kernel_rfl) (fun w v h => h) (fun A vs w' hF hT hb hd => ?_)
    have e1 : A.eval (.tmp 81) = .int .i64 ((0 : Nat) : Int) := (hT 81 33 (by simp) rfl).trans (hd ⟨33, .data⟩ (by simp) rfl)
    exact wp_eqlI rfl e1 rfl ⟨_, rfl, (congrArg Value.bool (decide_eq_true rfl)), KF.refl _ _⟩
  case o35 =>
    refine GdOpZ.plain rfl (fun A vs w' hF hT hb hd => ?_)
    have e1 : A.eval (.tmp 80) = .bool true := (hT 80 32 (by simp) rfl).trans (hd ⟨32, .data⟩ (by simp) rfl)
    have e2 : A.eval (.tmp 82) = .bool true := (hT 82 34 (by simp) rfl).trans (hd ⟨34, .data⟩ (by simp) rfl)
    exact wp_pk rfl e1 (fun _ => e2) (by simp) ⟨_, rfl, rfl, KF.refl _ _⟩
  case o36 =>
    refine GdOpZ.plain rfl (fun A vs w' hF hT hb hd => ?_)
    have e1 : A.eval (.tmp 83) = .bool true := (hT 83 35 (by simp) rfl).trans (hd ⟨35, .data⟩ (by simp) rfl)
    exact BigFrame.wp_move _ rfl ⟨_, rfl, e1, KF.refl _ _⟩
  case o37 =>
    refine GdOpZ.taken rfl ⟨_, _, rfl, rfl, by simp⟩ (by kernel_rfl) (fun w v h => h) (fun A vs w' hF hT hb hd => ?_)
    have e1 : A.eval (.tmp 8) = .int .i64 ((1 : Nat) : Int) := hF 8 rfl
    exact BigFrame.wp_move _ rfl ⟨_, rfl, e1, KF.refl _ _⟩
  case o38 =>
    refine GdOpZ.taken rfl ⟨_, _, rfl, rfl, by simp⟩ (by kernel_rfl) (fun w v h => h) (fun A vs w' hF hT hb hd => ?_)
    have e1 : A.eval (.tmp 85) = .int .i64 ((1 : Nat) : Int) := (hT 85 37 (by simp) rfl).trans (hd ⟨37, .data⟩ (by simp) rfl)
    exact wp_eqlI rfl e1 rfl ⟨_, rfl, (congrArg Value.bool (decide_eq_true rfl)), KF.refl _ _⟩
  case o39 =>
    refine GdOpZ.plain rfl (fun A vs w' hF hT hb hd => ?_)
    have e1 : A.eval (.tmp 84) = .bool true := (hT 84 36 (by simp) rfl).trans (hd ⟨36, .data⟩ (by simp) rfl)
    have e2 : A.eval (.tmp 86) = .bool true := (hT 86 38 (by simp) rfl).trans (hd ⟨38, .data⟩ (by simp) rfl)
    exact wp_pk rfl e1 (fun _ => e2) (by simp) ⟨_, rfl, rfl, KF.refl _ _⟩
  case o40 =>
    refine GdOpZ.plain rfl (fun A vs w' hF hT hb hd => ?_)
    have e1 : A.eval (.tmp 87) = .bool true := (hT 87 39 (by simp) rfl).trans (hd ⟨39, .data⟩ (by simp) rfl)
    exact BigFrame.wp_move _ rfl ⟨_, rfl, e1, KF.refl _ _⟩
  case o41 =>
    refine GdOpZ.taken rfl ⟨_, _, rfl, rfl, by simp⟩ (by kernel_rfl) (fun w v h => h) (fun A vs w' hF hT hb hd => ?_)
    have e1 : A.eval (.tmp 1) = .pointer (some ⟨bA, 0, none⟩) := hF 1 rfl
    have hW := hb.below
    exact wp_load4 spS rfl e1 ((xA.below hW xA.lt).cell (i := 0) rfl) ((xA.below hW xA.lt).cell (i := 1) rfl) ((xA.below hW xA.lt).cell (i := 2) rfl) ((xA.below hW xA.lt).cell (i := 3) rfl) ⟨_, rfl, rfl, KF.refl _ _⟩
  case o42 =>
    refine GdOpZ.taken rfl ⟨_, _, rfl, rfl, by simp⟩ (by kernel_rfl) (fun w v h => h) (fun A vs w' hF hT hb hd => ?_)
    exact wp_litZ byP rfl [97] rfl rfl (by decide) hb.size
  case o43 =>
    refine GdOpZ.taken rfl ⟨_, _, rfl, rfl, by simp⟩ (by kernel_rfl) (fun w v h => h) (fun A vs w' hF hT hb hd => ?_)
    exact wp_convZ byP rfl (hT 90 42 (by simp) rfl) (hd ⟨42, .data⟩ (by simp) rfl) (by decide)
  case o44 =>
    refine GdOpZ.taken rfl ⟨_, _, rfl, rfl, by simp⟩ (by kernel_rfl) (fun w v h => h) (fun A vs w' hF hT hb hd => ?_)
    have e1 : A.eval (.tmp 89) = .agg #[.int .i64 aS10.table, .slice aA aS10.lo.length cA, .slice mA aS10.hi.length nA, .bool aS10.isOpen] := (hT 89 41 (by simp) rfl).trans (hd ⟨41, .data⟩ (by simp) rfl)
    have hW := hb.below
    have e1 : A.eval (.tmp 89) = .agg #[.int .i64 aS10.table, .slice aA aS10.lo.length cA, .slice mA aS10.hi.length nA, .bool aS10.isOpen] := (hT 89 41 (by simp) rfl).trans (hd ⟨41, .data⟩ (by simp) rfl)
    obtain ⟨a3, c3, q3, r3⟩ : ∃ a c, vs 43 = .slice a ([97] : List UInt8).length c ∧ RdS (fun _ => True) w' (.slice a ([97] : List UInt8).length c) [97] := hd ⟨43, .data⟩ (by simp) rfl
    have e3 : A.eval (.tmp 91) = .slice a3 ([97] : List UInt8).length c3 := (hT 91 43 (by simp) rfl).trans q3
    refine wp_callFn rfl eI (args := #[.agg #[.int .i64 aS10.table, .slice aA aS10.lo.length cA, .slice mA aS10.hi.length nA, .bool aS10.isOpen], .int .i64 1, .slice a3 ([97] : List UInt8).length c3]) (by simp only [List.map_toArray, List.map_cons, List.map_nil, e1, e3]; rfl) ((sIn_any w' (x := aS10) (t := 1) ⟨_, _, _, _, rfl, rlA.below hW, rhA.below hW, rtA⟩ r3).mono ?_)
    rintro e w2 ⟨rfl, hb2⟩
    exact ⟨_, rfl, _, rfl, kq44, KF.of hb2⟩
  case o45 =>
    refine GdOpZ.plain rfl (fun A vs w' hF hT hb hd => ?_)
    have e1 : A.eval (.tmp 88) = .bool true := (hT 88 40 (by simp) rfl).trans (hd ⟨40, .data⟩ (by simp) rfl)
    have e2 : A.eval (.tmp 92) = .bool true := (hT 92 44 (by simp) rfl).trans (hd ⟨44, .data⟩ (by simp) rfl)
    exact wp_pk rfl e1 (fun _ => e2) (by simp) ⟨_, rfl, rfl, KF.refl _ _⟩
  case o46 =>
    refine GdOpZ.plain rfl (fun A vs w' hF hT hb hd => ?_)
    have e1 : A.eval (.tmp 93) = .bool true := (hT 93 45 (by simp) rfl).trans (hd ⟨45, .data⟩ (by simp) rfl)
    exact BigFrame.wp_move _ rfl ⟨_, rfl, e1, KF.refl _ _⟩
  case o47 =>
    refine GdOpZ.taken rfl ⟨_, _, rfl, rfl, by simp⟩ (by kernel_rfl) (fun w v h => h) (fun A vs w' hF hT hb hd => ?_)
    have e1 : A.eval (.tmp 1) = .pointer (some ⟨bA, 0, none⟩) := hF 1 rfl
    have hW := hb.below
    exact wp_load4 spS rfl e1 ((xA.below hW xA.lt).cell (i := 0) rfl) ((xA.below hW xA.lt).cell (i := 1) rfl) ((xA.below hW xA.lt).cell (i := 2) rfl) ((xA.below hW xA.lt).cell (i := 3) rfl) ⟨_, rfl, rfl, KF.refl _ _⟩
  case o48 =>
    refine GdOpZ.taken rfl ⟨_, _, rfl, rfl, by simp⟩ (by kernel_rfl) (fun w v h => h) (fun A vs w' hF hT hb hd => ?_)
    exact wp_litZ byP rfl [97] rfl rfl (by decide) hb.size
  case o49 =>
    refine GdOpZ.taken rfl ⟨_, _, rfl, rfl, by simp⟩ (by kernel_rfl) (fun w v h => h) (fun A vs w' hF hT hb hd => ?_)
    exact wp_convZ byP rfl (hT 96 48 (by simp) rfl) (hd ⟨48, .data⟩ (by simp) rfl) (by decide)
  case o50 =>
    refine GdOpZ.taken rfl ⟨_, _, rfl, rfl, by simp⟩ (by kernel_rfl) (fun w v h => h) (fun A vs w' hF hT hb hd => ?_)
    have e1 : A.eval (.tmp 95) = .agg #[.int .i64 aS10.table, .slice aA aS10.lo.length cA, .slice mA aS10.hi.length nA, .bool aS10.isOpen] := (hT 95 47 (by simp) rfl).trans (hd ⟨47, .data⟩ (by simp) rfl)
    have hW := hb.below
    have e1 : A.eval (.tmp 95) = .agg #[.int .i64 aS10.table, .slice aA aS10.lo.length cA, .slice mA aS10.hi.length nA, .bool aS10.isOpen] := (hT 95 47 (by simp) rfl).trans (hd ⟨47, .data⟩ (by simp) rfl)
    obtain ⟨a3, c3, q3, r3⟩ : ∃ a c, vs 49 = .slice a ([97] : List UInt8).length c ∧ RdS (fun _ => True) w' (.slice a ([97] : List UInt8).length c) [97] := hd ⟨49, .data⟩ (by simp) rfl
    have e3 : A.eval (.tmp 97) = .slice a3 ([97] : List UInt8).length c3 := (hT 97 49 (by simp) rfl).trans q3
    refine wp_callFn rfl eI (args := #[.agg #[.int .i64 aS10.table, .slice aA aS10.lo.length cA, .slice mA aS10.hi.length nA, .bool aS10.isOpen], .int .i64 0, .slice a3 ([97] : List UInt8).length c3]) (by simp only [List.map_toArray, List.map_cons, List.map_nil, e1, e3]; rfl) ((sIn_any w' (x := aS10) (t := 0) ⟨_, _, _, _, rfl, rlA.below hW, rhA.below hW, rtA⟩ r3).mono ?_)
    rintro e w2 ⟨rfl, hb2⟩
    exact ⟨_, rfl, _, rfl, kq50, KF.of hb2⟩
  case o51 =>
    refine GdOpZ.taken rfl ⟨_, _, rfl, rfl, by simp⟩ (by kernel_rfl) (fun w v h => h) (fun A vs w' hF hT hb hd => ?_)
    have e1 : A.eval (.tmp 98) = .bool false := (hT 98 50 (by simp) rfl).trans (hd ⟨50, .data⟩ (by simp) rfl)
    exact wp_notB rfl e1 ⟨_, rfl, rfl, KF.refl _ _⟩
  case o52 =>
    refine GdOpZ.plain rfl (fun A vs w' hF hT hb hd => ?_)
    have e1 : A.eval (.tmp 94) = .bool true := (hT 94 46 (by simp) rfl).trans (hd ⟨46, .data⟩ (by simp) rfl)
    have e2 : A.eval (.tmp 99) = .bool true := (hT 99 51 (by simp) rfl).trans (hd ⟨51, .data⟩ (by simp) rfl)
    exact wp_pk rfl e1 (fun _ => e2) (by simp) ⟨_, rfl, rfl, KF.refl _ _⟩
  case o53 =>
    refine GdOpZ.plain rfl (fun A vs w' hF hT hb hd => ?_)
    have e1 : A.eval (.tmp 100) = .bool true := (hT 100 52 (by simp) rfl).trans (hd ⟨52, .data⟩ (by simp) rfl)
    exact BigFrame.wp_move _ rfl ⟨_, rfl, e1, KF.refl _ _⟩
  case o54 =>
    refine GdOpZ.taken rfl ⟨_, _, rfl, rfl, by simp⟩ (by kernel_rfl) (fun w v h => h) (fun A vs w' hF hT hb hd => ?_)
    exact wp_buildV rfl (by simp [Act.eval]) (run_buildSp0 _) ⟨_, rfl, rfl, KF.refl _ _⟩
  case o55 =>
    refine GdOpZ.taken rfl ⟨_, _, rfl, rfl, by simp⟩ (by kernel_rfl) (fun w v h => h) (fun A vs w' hF hT hb hd => ?_)
    have e1 : A.eval (.tmp 102) = .agg #[.int .i64 (0), .slice none 0 0, .slice none 0 0, .bool false] := (hT 102 54 (by simp) rfl).trans (hd ⟨54, .data⟩ (by simp) rfl)
    have hW := hb.below
    have e1 : A.eval (.tmp 102) = .agg #[.int .i64 (0), .slice none 0 0, .slice none 0 0, .bool false] := (hT 102 54 (by simp) rfl).trans (hd ⟨54, .data⟩ (by simp) rfl)
    refine wp_callFn rfl eE (args := #[.agg #[.int .i64 (0), .slice none 0 0, .slice none 0 0, .bool false]]) (by simp only [List.map_toArray, List.map_cons, List.map_nil, e1]) ((sEmpty_any w' (S := fun _ => True) (x := ⟨0, [], [], false⟩) ⟨none, 0, none, 0, rfl, RdS.nil _ _, RdS.nil _ _, by unfold W64; decide⟩).mono ?_)
    rintro e w2 ⟨rfl, hb2⟩
    exact ⟨_, rfl, _, rfl, kq55, KF.of hb2⟩
  case o56 =>
    refine GdOpZ.plain rfl (fun A vs w' hF hT hb hd => ?_)
    have e1 : A.eval (.tmp 101) = .bool true := (hT 101 53 (by simp) rfl).trans (hd ⟨53, .data⟩ (by simp) rfl)
    have e2 : A.eval (.tmp 103) = .bool true := (hT 103 55 (by simp) rfl).trans (hd ⟨55, .data⟩ (by simp) rfl)
    exact wp_pk rfl e1 (fun _ => e2) (by simp) ⟨_, rfl, rfl, KF.refl _ _⟩
  case o57 =>
    refine GdOpZ.plain rfl (fun A vs w' hF hT hb hd => ?_)
    have e1 : A.eval (.tmp 104) = .bool true := (hT 104 56 (by simp) rfl).trans (hd ⟨56, .data⟩ (by simp) rfl)
    exact BigFrame.wp_move _ rfl ⟨_, rfl, e1, KF.refl _ _⟩
  case o58 =>
    refine GdOpZ.taken rfl ⟨_, _, rfl, rfl, by simp⟩ (by kernel_rfl) (fun w v h => h) (fun A vs w' hF hT hb hd => ?_)
    have e1 : A.eval (.tmp 2) = .pointer (some ⟨bB, 0, none⟩) := hF 2 rfl
    have hW := hb.below
    exact wp_load4 spS rfl e1 ((xB.below hW xB.lt).cell (i := 0) rfl) ((xB.below hW xB.lt).cell (i := 1) rfl) ((xB.below hW xB.lt).cell (i := 2) rfl) ((xB.below hW xB.lt).cell (i := 3) rfl) ⟨_, rfl, rfl, KF.refl _ _⟩
  case o59 =>
    refine GdOpZ.taken rfl ⟨_, _, rfl, rfl, by simp⟩ (by kernel_rfl) (fun w v h => h) (fun A vs w' hF hT hb hd => ?_)
    have e1 : A.eval (.tmp 106) = .agg #[.int .i64 1, .slice (some ⟨gB, 0, none⟩) 1 1, .slice none 0 0, .bool true] := (hT 106 58 (by simp) rfl).trans (hd ⟨58, .data⟩ (by simp) rfl)
    have hW := hb.below
    have e1 : A.eval (.tmp 106) = .agg #[.int .i64 1, .slice (some ⟨gB, 0, none⟩) 1 1, .slice none 0 0, .bool true] := (hT 106 58 (by simp) rfl).trans (hd ⟨58, .data⟩ (by simp) rfl)
    refine wp_callFn rfl eE (args := #[.agg #[.int .i64 1, .slice (some ⟨gB, 0, none⟩) 1 1, .slice none 0 0, .bool true]]) (by simp only [List.map_toArray, List.map_cons, List.map_nil, e1]) ((sEmpty_any w' (S := fun _ => True) (x := bS10) ⟨_, _, none, 0, rfl, rlB.below hW, RdS.nil _ _, by unfold W64; decide⟩).mono ?_)
    rintro e w2 ⟨rfl, hb2⟩
    exact ⟨_, rfl, _, rfl, kq59, KF.of hb2⟩
  case o60 =>
    refine GdOpZ.taken rfl ⟨_, _, rfl, rfl, by simp⟩ (by kernel_rfl) (fun w v h => h) (fun A vs w' hF hT hb hd => ?_)
    have e1 : A.eval (.tmp 107) = .bool false := (hT 107 59 (by simp) rfl).trans (hd ⟨59, .data⟩ (by simp) rfl)
    exact wp_notB rfl e1 ⟨_, rfl, rfl, KF.refl _ _⟩
  case o61 =>
    refine GdOpZ.plain rfl (fun A vs w' hF hT hb hd => ?_)
    have e1 : A.eval (.tmp 105) = .bool true := (hT 105 57 (by simp) rfl).trans (hd ⟨57, .data⟩ (by simp) rfl)
    have e2 : A.eval (.tmp 108) = .bool true := (hT 108 60 (by simp) rfl).trans (hd ⟨60, .data⟩ (by simp) rfl)
    exact wp_pk rfl e1 (fun _ => e2) (by simp) ⟨_, rfl, rfl, KF.refl _ _⟩
  case o62 =>
    refine GdOpZ.plain rfl (fun A vs w' hF hT hb hd => ?_)
    have e1 : A.eval (.tmp 109) = .bool true := (hT 109 61 (by simp) rfl).trans (hd ⟨61, .data⟩ (by simp) rfl)
    exact BigFrame.wp_move _ rfl ⟨_, rfl, e1, KF.refl _ _⟩
  case o63 =>
    refine GdOpZ.taken rfl ⟨_, _, rfl, rfl, by simp⟩ (by kernel_rfl) (fun w v h => h) (fun A vs w' hF hT hb hd => ?_)
    have e1 : A.eval (.tmp 2) = .pointer (some ⟨bB, 0, none⟩) := hF 2 rfl
    have hW := hb.below
    exact wp_load4 spS rfl e1 ((xB.below hW xB.lt).cell (i := 0) rfl) ((xB.below hW xB.lt).cell (i := 1) rfl) ((xB.below hW xB.lt).cell (i := 2) rfl) ((xB.below hW xB.lt).cell (i := 3) rfl) ⟨_, rfl, rfl, KF.refl _ _⟩
  case o64 =>
    refine GdOpZ.taken rfl ⟨_, _, rfl, rfl, by simp⟩ (by kernel_rfl) (fun w v h => h) (fun A vs w' hF hT hb hd => ?_)
    have e1 : A.eval (.tmp 111) = .agg #[.int .i64 1, .slice (some ⟨gB, 0, none⟩) 1 1, .slice none 0 0, .bool true] := (hT 111 63 (by simp) rfl).trans (hd ⟨63, .data⟩ (by simp) rfl)
    have hW := hb.below
    have e1 : A.eval (.tmp 111) = .agg #[.int .i64 1, .slice (some ⟨gB, 0, none⟩) 1 1, .slice none 0 0, .bool true] := (hT 111 63 (by simp) rfl).trans (hd ⟨63, .data⟩ (by simp) rfl)
    refine wp_callFn rfl eK (args := #[.agg #[.int .i64 1, .slice (some ⟨gB, 0, none⟩) 1 1, .slice none 0 0, .bool true]]) (by simp only [List.map_toArray, List.map_cons, List.map_nil, e1]) ((sCheck_any w' (S := fun _ => True) (x := bS10) ⟨_, _, none, 0, rfl, rlB.below hW, RdS.nil _ _, by unfold W64; decide⟩).mono ?_)
    rintro e w2 ⟨rfl, hb2⟩
    exact ⟨_, rfl, _, rfl, kq64, KF.of hb2⟩
  case o65 =>
    refine GdOpZ.plain rfl (fun A vs w' hF hT hb hd => ?_)
    have e1 : A.eval (.tmp 110) = .bool true := (hT 110 62 (by simp) rfl).trans (hd ⟨62, .data⟩ (by simp) rfl)
    have e2 : A.eval (.tmp 112) = .bool true := (hT 112 64 (by simp) rfl).trans (hd ⟨64, .data⟩ (by simp) rfl)
    exact wp_pk rfl e1 (fun _ => e2) (by simp) ⟨_, rfl, rfl, KF.refl _ _⟩
  case o66 =>
    refine GdOpZ.plain rfl (fun A vs w' hF hT hb hd => ?_)
    have e1 : A.eval (.tmp 113) = .bool true := (hT 113 65 (by simp) rfl).trans (hd ⟨65, .data⟩ (by simp) rfl)
    exact BigFrame.wp_move _ rfl ⟨_, rfl, e1, KF.refl _ _⟩
  case o67 =>
    refine GdOpZ.taken rfl ⟨_, _, rfl, rfl, by simp⟩ (by kernel_rfl) (fun w v h => h) (fun A vs w' hF hT hb hd => ?_)
    exact wp_buildV rfl (by simp [Act.eval]) (run_buildSp1 _) ⟨_, rfl, rfl, KF.refl _ _⟩
  case o68 =>
    refine GdOpZ.taken rfl ⟨_, _, rfl, rfl, by simp⟩ (by kernel_rfl) (fun w v h => h) (fun A vs w' hF hT hb hd => ?_)
    have e1 : A.eval (.tmp 115) = .agg #[.int .i64 (-1), .slice none 0 0, .slice none 0 0, .bool false] := (hT 115 67 (by simp) rfl).trans (hd ⟨67, .data⟩ (by simp) rfl)
    have hW := hb.below
    have e1 : A.eval (.tmp 115) = .agg #[.int .i64 (-1), .slice none 0 0, .slice none 0 0, .bool false] := (hT 115 67 (by simp) rfl).trans (hd ⟨67, .data⟩ (by simp) rfl)
    refine wp_callFn rfl eK (args := #[.agg #[.int .i64 (-1), .slice none 0 0, .slice none 0 0, .bool false]]) (by simp only [List.map_toArray, List.map_cons, List.map_nil, e1]) ((sCheck_any w' (S := fun _ => True) (x := ⟨-1, [], [], false⟩) ⟨none, 0, none, 0, rfl, RdS.nil _ _, RdS.nil _ _, by unfold W64; decide⟩).mono ?_)
    rintro e w2 ⟨rfl, hb2⟩
    exact ⟨_, rfl, _, rfl, kq68, KF.of hb2⟩
  case o69 =>
    refine GdOpZ.taken rfl ⟨_, _, rfl, rfl, by simp⟩ (by kernel_rfl) (fun w v h => h) (fun A vs w' hF hT hb hd => ?_)
    have e1 : A.eval (.tmp 116) = .bool false := (hT 116 68 (by simp) rfl).trans (hd ⟨68, .data⟩ (by simp) rfl)
    exact wp_notB rfl e1 ⟨_, rfl, rfl, KF.refl _ _⟩
  case o70 =>
    refine GdOpZ.plain rfl (fun A vs w' hF hT hb hd => ?_)
    have e1 : A.eval (.tmp 114) = .bool true := (hT 114 66 (by simp) rfl).trans (hd ⟨66, .data⟩ (by simp) rfl)
    have e2 : A.eval (.tmp 117) = .bool true := (hT 117 69 (by simp) rfl).trans (hd ⟨69, .data⟩ (by simp) rfl)
    exact wp_pk rfl e1 (fun _ => e2) (by simp) ⟨_, rfl, rfl, KF.refl _ _⟩
  case o71 =>
    refine GdOpZ.plain rfl (fun A vs w' hF hT hb hd => ?_)
    have e1 : A.eval (.tmp 118) = .bool true := (hT 118 70 (by simp) rfl).trans (hd ⟨70, .data⟩ (by simp) rfl)
    exact BigFrame.wp_assign _ rfl ⟨_, rfl, e1, KF.refl _ _⟩
  case fin =>
    intro A vs w' hA hb hG
    have e6 : A.eval (.tmp 0) = .bool true := (hA.2.2.2 0 71 (by simp) rfl).trans (hG 71 (by decide))
    have hdf : A.defers = [] := hA.1
    clear hG hA
    go_wp2
    refine bodyPost_ret (v := .bool true) ?_ hdf ⟨rfl, q.trans (hb.below.mono q.size)⟩
    rw [← e6]
    exact results_tmp rfl _ _ _
end Go.Proofs.Ytcopdnigfnmnkaa
namespace Go.Proofs.Ytcopdnigfnmnkaa
open Go.RowKit
section
variable {P : Program} {Q : Exit → Act → World → Prop}
def wpOpS (P : Program) (ops : Array Oper) (Q : Exit → Act → World → Prop) (i : Nat) (K : Act → World → Prop) (a : Act) (w : World) : Prop :=
  match ops[i]? with
  | none => K a w
  | some o => if Region.wanted o (yielded ops a.tmps) then o.wp P a w K Q else K (a.put o.dst undef) w
def wpAnyS (P : Program) (ops : Array Oper) (Q : Exit → Act → World → Prop) : Nat → Array Bool → Act → World → Prop
  | 0, listed, a, w => Region.ready .any ops listed = [] ∧ Q .normal a w
  | fuel + 1, listed, a, w =>
    (Region.ready .any ops listed = [] → Q .normal a w) ∧
    ∀ i ∈ Region.ready .any ops listed, wpOpS P ops Q i (wpAnyS P ops Q fuel (listed.setIfInBounds i true)) a w
theorem anyS_any {ops : Array Oper} : ∀ (fuel : Nat) (listed : Array Bool) (a : Act) (w : World), wpAnyS P ops Q fuel listed a w → wpAny P .any ops Q fuel listed a w
  | 0, _, _, _, h => h
  | fuel + 1, listed, a, w, ⟨h1, h2⟩ => ⟨h1, fun i hi => by
    have h := h2 i hi
    unfold wpOpS at h
    unfold wpOp
    split
    · rename_i ho
      rw [ho] at h
      exact anyS_any fuel _ _ _ h
    · rename_i o ho
      rw [ho] at h
      dsimp only at h
      split
      · rename_i hw
        rw [if_pos hw] at h
        exact .inl (Oper.wp_mono (fun a w => anyS_any fuel _ a w) h)
      · rename_i hw
        rw [if_neg hw] at h
        exact anyS_any fuel _ _ _ h⟩
theorem wp_region_S {id : Nat} {ops : Array Oper} {a : Act} {w : World} (hm : P.follows .mixedOrders = true) (h : wpAnyS P ops Q ops.size (Array.replicate ops.size false) a { w with drawn := w.drawn + 1 }) : (Code.region id ops true).wp P Q a w :=
  wp_region_any hm (anyS_any _ _ _ _ h)
end
end Go.Proofs.Ytcopdnigfnmnkaa
namespace Go.Proofs.Ytcopdnigfnmnkaa
open Go.RowKit
section
variable {P : Program} {Q : Exit → Act → World → Prop}
def don (D : Nat → Bool) (i : Nat) : Nat → Bool := fun j => if j = i then true else D j
def told (S : List Nat) (D : Nat → Bool) (vs : Nat → Value) : List (Option Value) := S.map fun j => if D j then some (vs j) else none
def SetOp (P : Program) (Q : Exit → Act → World → Prop) (ops : Array Oper) (a : Act) (S : List Nat) (G : Nat → World → Value → Prop) (E : List (Option Value) → World → Prop) (K : World → World → Prop) (i : Nat) (o : Oper) : Prop :=
  ∀ (A : Act) (va : Nat → Value) (D : Nat → Bool) (w' : World), (∀ t, slotIx ops.toList 0 t = none → A.eval (.tmp t) = a.eval (.tmp t)) → (∀ t j, t < a.tmps.size → slotIx ops.toList 0 t = some j → A.eval (.tmp t) = va j) → D i = false → E (told S D va) w' →
    (∀ e ∈ o.after, Region.binds .any e = true → D e.on = true) → (∀ j d, D j = false → (ops[j]?).bind (·.dst) = some d → va j = a.eval (.tmp d)) → (∀ e ∈ o.after, Region.binds .any e = true → S.contains e.on = false → G e.on w' (va e.on)) →
    o.wp P A w' (fun a2 w2 => ∃ v, a2 = A.put o.dst v ∧ E (told S (don D i) (upd va i v)) w2 ∧ K w' w2) Q
def FreeOp (P : Program) (Q : Exit → Act → World → Prop) (ops : Array Oper) (a : Act) (S : List Nat) (G : Nat → World → Value → Prop) (E : List (Option Value) → World → Prop) (i : Nat) (o : Oper) : Prop :=
  ∀ (A : Act) (va : Nat → Value) (D : Nat → Bool) (w' : World), (∀ t, slotIx ops.toList 0 t = none → A.eval (.tmp t) = a.eval (.tmp t)) → (∀ t j, t < a.tmps.size → slotIx ops.toList 0 t = some j → A.eval (.tmp t) = va j) → D i = false → E (told S D va) w' →
    (∀ e ∈ o.after, Region.binds .any e = true → D e.on = true) → (∀ j d, D j = false → (ops[j]?).bind (·.dst) = some d → va j = a.eval (.tmp d)) → (∀ e ∈ o.after, Region.binds .any e = true → S.contains e.on = false → G e.on w' (va e.on)) →
    o.wp P A w' (fun a2 w2 => ∃ v, a2 = A.put o.dst v ∧ G i w2 v ∧ Below w'.heap.size w' w2) Q
def StOp (P : Program) (Q : Exit → Act → World → Prop) (ops : Array Oper) (a : Act) (S : List Nat) (G : Nat → World → Value → Prop) (E : List (Option Value) → World → Prop) (K : World → World → Prop) (i : Nat) (o : Oper) : Prop :=
  o.guard = none ∧ ((S.contains i = true ∧ SetOp P Q ops a S G E K i o) ∨ (S.contains i = false ∧ FreeOp P Q ops a S G E i o))
theorem StOp.set {ops : Array Oper} {a : Act} {S : List Nat} {G : Nat → World → Value → Prop} {E : List (Option Value) → World → Prop} {K : World → World → Prop} {i : Nat} {o : Oper} (hg : o.guard = none) (hp : S.contains i = true) (h : SetOp P Q ops a S G E K i o) : StOp P Q ops a S G E K i o := ⟨hg, .inl ⟨hp, h⟩⟩
theorem StOp.free {ops : Array Oper} {a : Act} {S : List Nat} {G : Nat → World → Value → Prop} {E : List (Option Value) → World → Prop} {K : World → World → Prop} {i : Nat} {o : Oper} (hg : o.guard = none) (hp : S.contains i = false) (h : FreeOp P Q ops a S G E i o) : StOp P Q ops a S G E K i o := ⟨hg, .inr ⟨hp, h⟩⟩
def StAll (P : Program) (Q : Exit → Act → World → Prop) (ops : Array Oper) (a : Act) (S : List Nat) (G : Nat → World → Value → Prop) (E : List (Option Value) → World → Prop) (K : World → World → Prop) : Nat → List Oper → Prop
  | _, [] => True
  | i, o :: rest => StOp P Q ops a S G E K i o ∧ StAll P Q ops a S G E K (i + 1) rest
theorem StAll.get {ops : Array Oper} {a : Act} {S : List Nat} {G : Nat → World → Value → Prop} {E : List (Option Value) → World → Prop} {K : World → World → Prop} : ∀ (l : List Oper) (k j : Nat) (o : Oper), StAll P Q ops a S G E K k l → l[j]? = some o → StOp P Q ops a S G E K (k + j) o
  | [], _, _, _, _, h => by simp at h
  | o' :: rest, k, 0, o, h, hj => by obtain rfl : o' = o := by simpa using hj
                                     exact h.1
  | o' :: rest, k, j + 1, o, h, hj => by rw [show k + (j + 1) = k + 1 + j by omega]; exact StAll.get rest (k + 1) j o h.2 (by simpa using hj)
theorem told_out {S : List Nat} {D : Nat → Bool} {vs : Nat → Value} {i : Nat} {v : Value} (h : i ∉ S) : told S (don D i) (upd vs i v) = told S D vs := by
  refine List.map_congr_left fun j hj => ?_
  have : j ≠ i := fun e => h (by rw [← e]; exact hj)
  simp [upd, don, this]
theorem anyS_set {ops : Array Oper} {a : Act} {w : World} (hs : gdB ops = true) (S : List Nat) (hS : (S.all fun c => decide (c < ops.size)) = true) (G : Nat → World → Value → Prop) (E : List (Option Value) → World → Prop) (K : World → World → Prop)
    (hG : ∀ i w v w', G i w v → Below w.heap.size w w' → G i w' v) (hK : ∀ i w v w', G i w v → K w w' → G i w' v) (hE : ∀ l w w', E l w → Below w.heap.size w w' → E l w') (h0 : E (S.map fun _ => none) w)
    (hop : StAll P Q ops a S G E K 0 ops.toList)
    (hend : ∀ (vs : Nat → Value) (w' : World), E (S.map fun j => some (vs j)) w' → (∀ i, i < ops.size → S.contains i = false → G i w' (vs i)) → Q .normal (putAll a ops.toList vs 0) w') : wpAnyS P ops Q ops.size (Array.replicate ops.size false) a { w with drawn := w.drawn + 1 } := by
  have hnd : (ops.toList.filterMap (·.dst)).Nodup := by simp only [gdB, slotsB, Bool.and_eq_true, decide_eq_true_eq] at hs; exact hs.2
  have hSl : ∀ c ∈ S, c < ops.size := fun c hc => by simpa using List.all_eq_true.1 hS c hc
  have main : ∀ (fuel : Nat) (listed : Array Bool) (vs : Nat → Value) (w' : World), listed.size = ops.size → (unlisted ops.size listed).length ≤ fuel → E (told S (fun j => listed.getD j true) vs) w' →
      (∀ i, i < ops.size → listed.getD i true = true → S.contains i = false → G i w' (vs i)) → (∀ j, j < ops.size → listed.getD j true = false → ∀ d, (ops[j]?).bind (·.dst) = some d → vs j = a.eval (.tmp d)) → wpAnyS P ops Q fuel listed (putAll a ops.toList vs 0) w' := by
    intro fuel
    have fin : ∀ (listed : Array Bool) (vs : Nat → Value) (w' : World), E (told S (fun j => listed.getD j true) vs) w' →
        (∀ i, i < ops.size → listed.getD i true = true → S.contains i = false → G i w' (vs i)) → (∀ i, i < ops.size → listed.getD i true = true) → Q .normal (putAll a ops.toList vs 0) w' := by
      intro listed vs w' hE' hG' hall
      refine hend vs w' ?_ fun i hi hc => hG' i hi (hall i hi) hc
      have : told S (fun j => listed.getD j true) vs = S.map fun j => some (vs j) := List.map_congr_left fun j hj => by simp [hall j (hSl j hj)]
      rw [← this]; exact hE'
    induction fuel with
    | zero =>
      intro listed vs w' hsz hu hE' hG' hun
      have hall : ∀ i, i < ops.size → listed.getD i true = true := by
        intro i hi
        cases hl : listed.getD i true with
        | true => rfl
        | false =>
          have : i ∈ unlisted ops.size listed := List.mem_filter.2 ⟨List.mem_range.2 hi, by simp [hl]⟩
          rw [List.eq_nil_of_length_eq_zero (Nat.le_zero.1 hu)] at this
          cases this
      refine ⟨?_, fin listed vs w' hE' hG' hall⟩
      unfold Region.ready
      rw [List.filter_eq_nil_iff]
      intro i hi
      simp [hall i (List.mem_range.1 hi)]
    | succ fuel ih =>
      intro listed vs w' hsz hu hE' hG' hun
      refine ⟨fun hr => fin listed vs w' hE' hG' (fun i hi => all_listed_gd hs hr i hi), fun i hi => ?_⟩
      unfold Region.ready at hi
      obtain ⟨hi1, hi2⟩ := List.mem_filter.1 hi
      have hlt := List.mem_range.1 hi1
      rw [Bool.and_eq_true] at hi2
      obtain ⟨hl, hdep⟩ := hi2
      have hl' : listed.getD i true = false := by simpa using hl
      obtain ⟨o, ho⟩ : ∃ o, ops[i]? = some o := ⟨_, Array.getElem?_eq_getElem hlt⟩
      rw [ho] at hdep
      simp only [Option.map_some, Option.getD_some] at hdep
      rw [Array.all_eq_true'] at hdep
      have hgop := StAll.get ops.toList 0 i o hop (by rw [Array.getElem?_toList]; exact ho)
      rw [Nat.zero_add] at hgop
      have hdepG : ∀ e ∈ o.after, Region.binds .any e = true → e.on < ops.size ∧ listed.getD e.on true = true := by
        intro e he hbn
        have h := hdep e he
        rw [hbn] at h
        simp only [Bool.not_true, Bool.false_or] at h
        have hin : e.on < listed.size := by
          rcases Nat.lt_or_ge e.on listed.size with h' | h'
          · exact h'
          · simp [Array.getD_eq_getD_getElem?, Array.getElem?_eq_none_iff.2 h'] at h
        have hl2 : listed.getD e.on true = true := by
          simp only [Array.getD_eq_getD_getElem?, Array.getElem?_eq_getElem hin, Option.getD_some] at h ⊢
          exact h
        exact ⟨by omega, hl2⟩
      have hdepS : ∀ e ∈ o.after, Region.binds .any e = true → S.contains e.on = false → G e.on w' (vs e.on) := fun e he hbn hc => hG' e.on (hdepG e he hbn).1 (hdepG e he hbn).2 hc
      have hdepD : ∀ e ∈ o.after, Region.binds .any e = true → (fun j => listed.getD j true) e.on = true := fun e he hbn => (hdepG e he hbn).2
      have hlate : ∀ j d, (fun j => listed.getD j true) j = false → (ops[j]?).bind (·.dst) = some d → vs j = a.eval (.tmp d) := by
        intro j d hj hd
        refine hun j ?_ hj d hd
        rcases Nat.lt_or_ge j ops.size with h | h
        · exact h
        · rw [Array.getElem?_eq_none h] at hd; simp at hd
      have hset : ∀ j, (listed.setIfInBounds i true).getD j true = don (fun j => listed.getD j true) i j := fun j => by
        by_cases hji : j = i
        · subst hji
          simp [don, Array.getD_eq_getD_getElem?, Array.getElem?_setIfInBounds_self_of_lt (by omega : j < listed.size)]
        · simp [don, hji, Array.getD_eq_getD_getElem?, Array.getElem?_setIfInBounds_ne (Ne.symm hji)]
      have step : ∀ (v : Value) (w2 : World), E (told S (don (fun j => listed.getD j true) i) (upd vs i v)) w2 → (S.contains i = false → G i w2 v) → (∀ j u, S.contains j = false → G j w' u → G j w2 u) → wpAnyS P ops Q fuel (listed.setIfInBounds i true) ((putAll a ops.toList vs 0).put o.dst v) w2 := by
        intro v w2 hE2 hGi hGs
        rw [putAll_put ops.toList a vs 0 i o v hnd (by rw [Array.getElem?_toList]; exact ho), Nat.zero_add]
        refine ih _ _ _ (by simp [hsz]) (by have := unlisted_set hsz hlt hl'; omega) ?_ (fun j hj hlj hc => ?_) (fun j hj hlj d hd => ?_)
        · rw [show (fun j => (listed.setIfInBounds i true).getD j true) = don (fun j => listed.getD j true) i from funext hset]
          exact hE2
        · by_cases hji : j = i
          · subst hji
            simpa [upd] using hGi hc
          · have hlj' : listed.getD j true = true := by rw [hset] at hlj; simpa [don, hji] using hlj
            have hv : upd vs i v j = vs j := by simp [upd, hji]
            rw [hv]
            exact hGs j _ hc (hG' j hj hlj' hc)
        · have hji : j ≠ i := fun e => by
            rw [hset, e] at hlj
            simp [don] at hlj
          have hv : upd vs i v j = vs j := by simp [upd, hji]
          rw [hv]
          rw [hset] at hlj
          exact hun j hj (by simpa [don, hji] using hlj) d hd
      unfold wpOpS
      simp only [ho, Region.wanted, hgop.1, if_true]
      rcases hgop.2 with ⟨hc, hln⟩ | ⟨hc, hsd⟩
      · have hwp := hln (putAll a ops.toList vs 0) vs (fun j => listed.getD j true) w' (fun t h => eval_putAll_out _ _ _ _ _ h) (fun t j ht h => eval_putAll_in _ _ _ _ _ _ hnd ht h) hl' hE' hdepD hlate hdepS
        refine Oper.wp_mono ?_ hwp
        rintro a2 w2 ⟨v, rfl, hE2, hK2⟩
        exact step v w2 hE2 (fun h => by rw [hc] at h; cases h) (fun j u _ hg => hK j w' u w2 hg hK2)
      · have hci : i ∉ S := fun h => by rw [List.contains_iff_mem.2 h] at hc; cases hc
        have hwp := hsd (putAll a ops.toList vs 0) vs (fun j => listed.getD j true) w' (fun t h => eval_putAll_out _ _ _ _ _ h) (fun t j ht h => eval_putAll_in _ _ _ _ _ _ hnd ht h) hl' hE' hdepD hlate hdepS
        refine Oper.wp_mono ?_ hwp
        rintro a2 w2 ⟨v, rfl, hg, hb2⟩
        refine step v w2 ?_ (fun _ => hg) (fun j u _ hgj => hG j w' u w2 hgj hb2)
        rw [told_out hci]
        exact hE _ _ _ hE' hb2
  have hbz : Below w.heap.size w { w with drawn := w.drawn + 1 } := ⟨rfl, rfl, rfl, Nat.le_refl _, fun _ _ => rfl⟩
  have hno : ∀ j, j < ops.size → (Array.replicate ops.size false).getD j true = false := fun j hj => by simp [Array.getD_eq_getD_getElem?, hj]
  have h1 := main ops.size (Array.replicate ops.size false) (fun i => ((ops[i]?).bind (·.dst)).elim undef (fun d => a.tmps.getD d undef)) { w with drawn := w.drawn + 1 } (by simp)
    (by have := List.length_filter_le (fun i => !(Array.replicate ops.size false).getD i true) (List.range ops.size); simpa [unlisted] using this)
    (by
      have : told S (fun j => (Array.replicate ops.size false).getD j true) (fun i => ((ops[i]?).bind (·.dst)).elim undef (fun d => a.tmps.getD d undef)) = S.map fun _ => none := List.map_congr_left fun j hj => by simp [hno j (hSl j hj)]
      rw [this]
      exact hE _ _ _ h0 hbz)
    (fun i hi h => by rw [hno i hi] at h; cases h)
    (fun j hj _ d hd => by simp only [hd, Option.elim]; rfl)
  rw [putAll_orig ops.toList a _ 0 (fun j o d hj hd => by
    rw [Array.getElem?_toList] at hj
    simp [hj, hd])] at h1
  exact h1
theorem wp_region_set {id : Nat} {ops : Array Oper} {a : Act} {w : World} (hm : P.follows .mixedOrders = true) (hs : gdB ops = true) (S : List Nat) (hS : (S.all fun c => decide (c < ops.size)) = true) (G : Nat → World → Value → Prop) (E : List (Option Value) → World → Prop) (K : World → World → Prop)
    (hG : ∀ i w v w', G i w v → Below w.heap.size w w' → G i w' v) (hK : ∀ i w v w', G i w v → K w w' → G i w' v) (hE : ∀ l w w', E l w → Below w.heap.size w w' → E l w') (h0 : E (S.map fun _ => none) w)
    (hop : StAll P Q ops a S G E K 0 ops.toList)
    (hend : ∀ (vs : Nat → Value) (w' : World), E (S.map fun j => some (vs j)) w' → (∀ i, i < ops.size → S.contains i = false → G i w' (vs i)) → Q .normal (putAll a ops.toList vs 0) w') : (Code.region id ops true).wp P Q a w := wp_region_S hm (anyS_set hs S hS G E K hG hK hE h0 hop hend)
end
section
variable {P : Program} {Q : Exit → Act → World → Prop} {K : World → World → Prop}
theorem wp_region_setl {id : Nat} {ops : Array Oper} {a : Act} {w : World} (hm : P.follows .mixedOrders = true) (hs : gdB ops = true) (S : List Nat) (hS : (S.all fun c => decide (c < ops.size)) = true) (Gs : List (SGn K)) (E : List (Option Value) → World → Prop)
    (hE : ∀ l w w', E l w → Below w.heap.size w w' → E l w') (h0 : E (S.map fun _ => none) w)
    (hop : StAll P Q ops a S (fun i => (Gs.getD i lAny).1) E K 0 ops.toList)
    (hend : ∀ (vs : Nat → Value) (w' : World), E (S.map fun j => some (vs j)) w' → (∀ i, i < ops.size → S.contains i = false → (Gs.getD i lAny).1 w' (vs i)) → Q .normal (putAll a ops.toList vs 0) w') : (Code.region id ops true).wp P Q a w :=
  wp_region_set hm hs S hS (fun i => (Gs.getD i lAny).1) E K (fun i => (Gs.getD i lAny).2.1) (fun i => (Gs.getD i lAny).2.2) hE h0 hop hend
end
end Go.Proofs.Ytcopdnigfnmnkaa
