/-
  TEXTS OF ONE PROOF, merged: SpG, Quo, Slg, SlSi, SpC, SpE, SpF.
-/
import Derived.Laws.Externs
import Derived.Lib.AppendZerosOnto
import Derived.Lib.Overlaps
import Derived.WalkMore
import Derived.Test.YtcopdnigfnmnkaaMd4
namespace Go.Proofs.Ytcopdnigfnmnkaa
open Go.RowKit Go.Shelf
theorem beside_snoc {l : List Sp} {x : Sp} {j : Nat} (h : j < l.length) : besideS (l.take (j + 1)) x = besideS (l.take j) x ++ (if coversS x l[j] = true then [] else [l[j]]) := by
  unfold besideS
  rw [List.take_succ_eq_append_getElem h, List.filter_append]
  congr 1
  cases e : coversS x l[j] <;> simp [e]
set_option maxRecDepth 100000 in
set_option maxHeartbeats 8000000 in
theorem beside_any (w : World) {S S2 : Nat → Prop} {a : Option Addr} {n c : Nat} {l : List Sp} {v : Value} {x : Sp} (hl : RdL Elt.sp S w (.slice a n c) l) (hs : smL l) (hx : RdSp S2 w v x) :
    Calls Try.prog 34 #[.slice a n c, v] w fun e w' => ∃ u, e = .returned (.tuple #[u, .bool (!stays l x)]) ∧ (stays l x = false → ∃ a c, u = .slice a (besideS l x).length c ∧ OwnL Elt.sp 24 w.heap.size w.heap.size w' (.slice a (besideS l x).length c) (besideS l x)) ∧ Below w.heap.size w w' := by
  obtain ⟨rfl, hnc, hcm⟩ := hl.len
  have hlm : l.length ≤ 9223372036854775807 := by unfold maxLen at hcm; omega
  obtain ⟨hs1, hs2⟩ := hs
  replace hl := hl.fit
  have hxs := hx.fit
  obtain ⟨a1, a2, a3, a4, rfl, hlx, hhx, htx⟩ := hx
  obtain ⟨W0, hW, q, Bx, hsz⟩ := spBox w 24 [.int .i64 x.table, .slice a1 x.lo.length a2, .slice a3 x.hi.length a4, .bool x.isOpen]
  go_enter Try.func34, Try.ntmps34
  go_upto_region 1 with (fail)
  rw [show w.alloc (.cells #[.int .i64 x.table, .slice a1 x.lo.length a2, .slice a3 x.hi.length a4, .bool x.isOpen] 24) = W0 from hW.symm]
  clear hW hlx hhx htx
  have c0 := Bx.cell (i := 0) rfl
  have c1 := Bx.cell (i := 1) rfl
  have c2 := Bx.cell (i := 2) rfl
  have c3 := Bx.cell (i := 3) rfl
  go_step3
  go_wp2_with fail
  refine (sEmpty_any W0 (hxs.below q)).mono ?_
  rintro e w1 ⟨rfl, hb⟩
  have q1 := q.trans (hb.mono q.size)
  have Bx1 := Bx.below hb Bx.lt
  clear c0 c1 c2 c3 Bx hb
  go_wp2_with fail
  go_step3
  go_upto_region 4 with (fail)
  have zw : w.heap.size < w1.heap.size := Bx1.lt
  go_loopw [6, 7, 15] (fun iv ov kv wr => ∃ (k : Nat) (ad : Option Addr) (ko : Nat), kv = .int .i64 k ∧ k ≤ l.length ∧ iv = .bool (!emptyS x) ∧ ov = .slice ad (besideS (l.take k) x).length ko ∧ OwnL Elt.sp 24 (w.heap.size + 1) (w.heap.size + 1) wr (.slice ad (besideS (l.take k) x).length ko) (besideS (l.take k) x) ∧ (∀ s ∈ l.take k, coversS s x = false) ∧ BoxN wr w.heap.size 24 [.int .i64 x.table, .slice a1 x.lo.length a2, .slice a3 x.hi.length a4, .bool x.isOpen] ∧ Below w.heap.size w wr ∧ w.heap.size < wr.heap.size)
    (fun _ _ i _ => l.length - (intOf i).toNat)
  case atStart => exact ⟨0, none, 0, rfl, Nat.zero_le _, rfl, rfl, OwnL.nil _ _ _ _ _, by simp, Bx1, q1, zw⟩
  case round =>
    clear q1 Bx1 q hsz zw
    obtain ⟨k, ad, ko, rfl, hkl, rfl, rfl, hO, hno, Bx, q, zw⟩ := hrel
    replace hno := Lib.hid hno
    rcases Nat.lt_or_ge k l.length with hlt | hge
    · obtain ⟨b, off, KA, KC, VA, VC, rfl, hb, c0, c1, c2, c3, hk1, hk2, ht⟩ := (hl.below q).sp k hlt
      obtain ⟨hx1, hx2⟩ := hs2 _ (List.getElem_mem hlt)
      have hsn := Lib.hid (show besideS (l.take (k + 1)) x = besideS (l.take k) x ++ (if coversS x l[k] = true then [] else [l[k]]) from beside_snoc hlt)
      have hcv := Lib.hid (show ∀ b, coversS l[k] x = b → (b = true → stays l x = true) ∧ (b = false → ∀ s ∈ l.take (k + 1), coversS s x = false) from fun b hb => ⟨fun h => by
          unfold stays; rw [List.any_eq_true.2 ⟨_, List.getElem_mem hlt, by rw [hb, h]⟩]; simp, fun h s hs => by
          rw [List.take_succ_eq_append_getElem hlt] at hs
          rcases List.mem_append.1 hs with h2 | h2
          · exact hno.out s h2
          · simp at h2; rw [h2, hb, h]⟩)
      obtain ⟨s, es⟩ : ∃ s, s = l[k] := ⟨_, rfl⟩
      obtain ⟨xs, exs⟩ : ∃ xs, xs = besideS (l.take k) x := ⟨_, rfl⟩
      have hxl : xs.length ≤ 1000000 := by rw [exs]; refine Nat.le_trans (List.length_filter_le _ _) ?_; rw [List.length_take]; omega
      rw [← es] at c0 c1 c2 c3 hk1 hk2 ht hx1 hx2 hsn hcv
      rw [← exs] at hO hsn
      rw [← exs]
      clear es exs hno
      go_upto_region 6 with (first | (refine wpList_boxNew (vs := [.int .i64 0, .slice none 0 0, .slice none 0 0, .bool false]) (by kernel_rfl) rfl rfl ?_; intro wa hba hBa) | (refine wpList_boxStore (us := [.int .i64 s.table, .slice KA s.lo.length KC, .slice VA s.hi.length VC, .bool s.isOpen]) (by kernel_rfl) rfl rfl rfl rfl rfl rfl hBa rfl ?_; intro W hgw hXW) | fail)
      go_simp
      have hbw : Below wr.heap.size wr W := hba.grown hgw hba.size fun k hk => by injection hk with hk; omega
      have hrr : ∀ k, Value.ownBlock (.slice ad xs.length ko) = some k → w.heap.size + 1 ≤ k ∧ k < wr.heap.size := fun k hk => hO.block_lt k hk
      have hss : RdSp (fun k => S k ∧ k < w.heap.size) W (.agg #[.int .i64 s.table, .slice KA s.lo.length KC, .slice VA s.hi.length VC, .bool s.isOpen]) s := ⟨_, _, _, _, rfl, hk1.below hbw, hk2.below hbw, ht⟩
      replace hO := hO.below hbw
      replace Bx := Bx.below hbw Bx.lt
      replace q := q.trans (hbw.mono q.size)
      have zw2 : wr.heap.size ≤ W.heap.size := hbw.size
      clear c0 c1 c2 c3 hba hBa hgw hbw hk1 hk2 hb ht
      have hxq := hxs.below q
      have f0 := hXW.cell (i := 0) rfl
      have f1 := hXW.cell (i := 1) rfl
      have f2 := hXW.cell (i := 2) rfl
      have f3 := hXW.cell (i := 3) rfl
      have c0 := Bx.cell (i := 0) rfl
      have c1 := Bx.cell (i := 1) rfl
      have c2 := Bx.cell (i := 2) rfl
      have c3 := Bx.cell (i := 3) rfl
      go_wp2_with fail
      refine (sCovers_any W hss hxq).mono ?_
      rintro e w2 ⟨rfl, hb2⟩
      replace hss := hss.below hb2
      replace hO := hO.below hb2
      replace Bx := Bx.below hb2 Bx.lt
      replace hXW := hXW.below hb2 hXW.lt
      replace q := q.trans (hb2.mono q.size)
      have zw3 := hb2.size
      clear f0 f1 f2 f3 c0 c1 c2 c3 hxq hb2
      cases hc : coversS s x with
      | true =>
        have H := Lib.hid ((hcv.out _ hc).1 rfl)
        clear hc hcv hsn
        go_wp2_with fail
        simp only [Exit.noGoto_ret]
        go_ret2
        rw [H.out]
        exact ⟨_, rfl, (fun h => by cases h), q⟩
      | false =>
        have hno := Lib.hid ((hcv.out _ hc).2 rfl)
        clear hc hcv
        have hxq := hxs.below q
        have f0 := hXW.cell (i := 0) rfl
        have f1 := hXW.cell (i := 1) rfl
        have f2 := hXW.cell (i := 2) rfl
        have f3 := hXW.cell (i := 3) rfl
        have c0 := Bx.cell (i := 0) rfl
        have c1 := Bx.cell (i := 1) rfl
        have c2 := Bx.cell (i := 2) rfl
        have c3 := Bx.cell (i := 3) rfl
        go_wp2_with fail
        refine (sCovers_any w2 hxq hss).mono ?_
        rintro e w3 ⟨rfl, hb3⟩
        replace hss := hss.below hb3
        replace hO := hO.below hb3
        replace Bx := Bx.below hb3 Bx.lt
        replace hXW := hXW.below hb3 hXW.lt
        replace q := q.trans (hb3.mono q.size)
        have zw4 := hb3.size
        clear f0 f1 f2 f3 c0 c1 c2 c3 hxq hb3
        cases hc : coversS x s with
        | true =>
          have hn2 := Lib.hid (show besideS (l.take (k + 1)) x = xs by rw [hsn.out, if_pos hc, List.append_nil])
          clear hc hsn hss hXW
          go_wp2_with fail
          go_roundw
          case rel => exact ⟨k + 1, ad, ko, by go_num, by omega, rfl, by rw [hn2.out], by rw [hn2.out]; exact hO, hno.out, Bx, q, by omega⟩
          case measure => simp [intOf]; omega
        | false =>
          have hn2 := Lib.hid (show besideS (l.take (k + 1)) x = xs ++ [s] by rw [hsn.out, if_neg (by rw [hc]; simp)])
          clear hc hsn
          have f0 := hXW.cell (i := 0) rfl
          have f1 := hXW.cell (i := 1) rfl
          have f2 := hXW.cell (i := 2) rfl
          have f3 := hXW.cell (i := 3) rfl
          go_wp2_with fail
          refine (sAlone_any w3 hss hx1 hx2).mono ?_
          rintro e w4 ⟨v2, rfl, ⟨ka, kc, va, vc, rfl, hk3, hv3, ht3⟩, hb4⟩
          have hR : Elt.sp.R (fun k => w3.heap.size ≤ k ∧ k < w4.heap.size) w4 s (spC s (.slice ka s.lo.length kc) (.slice va s.hi.length vc)) := ⟨_, _, rfl, hk3, hv3, ht3⟩
          replace hO := hO.below hb4
          replace Bx := Bx.below hb4 Bx.lt
          replace q := q.trans (hb4.mono q.size)
          have z4 := hb4.size
          clear f0 f1 f2 f3 hss hXW hb4
          go_wp2_with (first
            | (refine wpList_buildOne spP rfl rfl rfl (us := spC s (.slice ka s.lo.length kc) (.slice va s.hi.length vc)) rfl rfl (by decide) (by decide) ?_; intro w5 hb5 hrow)
            | (refine wpList_apvRow (E := Elt.sp) (n := xs.length + 1) spP rfl rfl rfl rfl (hO.below hb5) hrow (Elt.below hR hb5) (fun k hk => ⟨by omega, Nat.lt_of_lt_of_le hk.2 hb5.size, fun e => by have := hrr k e.symm; omega⟩) (by have := hb5.size; omega) (by omega) rfl ?_; intro ad9 c9 w6 hO9 hg6 _)
            | fail)
          have q5 := q.trans (hb5.mono q.size)
          have q9 := q5.grown hg6 q5.size fun k hk => by have := hrr k hk; omega
          have Bx9 := (Bx.below hb5 Bx.lt).other hg6 fun e => by have := hrr _ e; omega
          have hz9 : w.heap.size < w6.heap.size := Bx9.lt
          have hL9 := Lib.hid (show xs.length + 1 = (besideS (l.take (k + 1)) x).length by rw [hn2.out]; simp)
          clear hO hR hk3 hv3 q q5 hg6 hrow hb5 Bx
          go_roundw
          case rel =>
            have e := hL9.out
            rw [e, ← hn2.out] at hO9
            rw [e]
            exact ⟨k + 1, ad9, c9, by go_num, by omega, rfl, rfl, hO9, hno.out, Bx9, q9, hz9⟩
          case measure => simp [intOf]; omega
    · obtain rfl : k = l.length := by omega
      rw [List.take_length] at hO hno
      rw [List.take_length]
      have H := Lib.hid (show (!emptyS x) = !stays l x by
        unfold stays
        rw [show (l.any fun s => coversS s x) = false from List.any_eq_false.2 fun s hs => by rw [hno.out s hs]; simp, Bool.or_false])
      clear hno Bx
      go_wp2_with fail
      simp only [Exit.noGoto_ret]
      go_ret2
      rw [← H.out]
      exact ⟨_, rfl, (fun _ => ⟨_, _, rfl, hO.to (by omega) (by omega)⟩), q⟩
end Go.Proofs.Ytcopdnigfnmnkaa
namespace Go.Proofs.Ytcopdnigfnmnkaa
open Go.RowKit
structure Trd (F : Nat → Prop) (w w' : World) : Prop where
  os : w'.os = w.os
  tape : w'.tape = w.tape
  output : w'.output = w.output
  size : w.heap.size ≤ w'.heap.size
  block : ∀ k, k < w.heap.size → ¬ F k → w'.heap[k]? = w.heap[k]?
section
variable {F F' : Nat → Prop} {a b c w w' : World}
theorem Trd.refl (F : Nat → Prop) (w : World) : Trd F w w := ⟨rfl, rfl, rfl, Nat.le_refl _, fun _ _ _ => rfl⟩
theorem Trd.trans (h : Trd F a b) (k : Trd F' b c) (hf : ∀ k, k < a.heap.size → F' k → F k) : Trd F a c :=
  ⟨k.os.trans h.os, k.tape.trans h.tape, k.output.trans h.output, Nat.le_trans h.size k.size, fun i hi hn => (k.block i (Nat.lt_of_lt_of_le hi h.size) fun hF => hn (hf i hi hF)).trans (h.block i hi hn)⟩
theorem Trd.of (h : Below w.heap.size w w') : Trd F w w' := ⟨h.os, h.tape, h.output, h.size, fun k hk _ => h.block k hk⟩
theorem Trd.ofGrown {r : Option Nat} (h : w.grownBy w' r) (hr : ∀ k, r = some k → F k) : Trd F w w' := ⟨h.os, h.tape, h.output, h.size, fun k hk hn => h.block k hk fun e => hn (hr k e.symm)⟩
end
def RowQ (Te : TypeId) (sz : Nat) (w : World) (v : Value) (n : Nat) (vs : List Value) : Prop := w.ownsRow 0 Te sz v n vs ∧ ∀ u ∈ vs, u.oneCell' = true
section
variable {Te : TypeId} {sz n : Nat} {w w' : World} {v : Value} {vs : List Value}
theorem RowQ.len (h : RowQ Te sz w v n vs) : vs.length = n * sz := h.1.1
theorem RowQ.cases (h : RowQ Te sz w v n vs) : (v = .slice none 0 0 ∧ n = 0 ∧ vs = []) ∨ ∃ g cap cur, v = .slice (some ⟨g, 0, none⟩) n cap ∧ w.heap[g]? = some (.cells cur Te (0, 0)) ∧ n ≤ cap ∧ cap ≤ maxLen ∧ cur.size = cap * sz ∧ cur.toList.take (n * sz) = vs := by
  rcases h.1.2 with ⟨h1, h2⟩ | ⟨g, cap, cur, h1, _, h2, h3, h4, h5, h6⟩
  · refine .inl ⟨h1, h2, List.eq_nil_of_length_eq_zero ?_⟩
    rw [h.len, h2, Nat.zero_mul]
  · exact .inr ⟨g, cap, cur, h1, h2, h3, h4, h5, h6⟩
theorem RowQ.of {g cap : Nat} {cur : Array Value} (hg : w.heap[g]? = some (.cells cur Te (0, 0))) (h1 : n ≤ cap) (h2 : cap ≤ maxLen) (h3 : cur.size = cap * sz) (h4 : cur.toList.take (n * sz) = vs) (h5 : ∀ u ∈ vs, u.oneCell' = true) : RowQ Te sz w (.slice (some ⟨g, 0, none⟩) n cap) n vs := by
  refine ⟨⟨?_, .inr ⟨g, cap, cur, rfl, Nat.zero_le _, hg, h1, h2, h3, h4⟩⟩, h5⟩
  rw [← h4, List.length_take, Array.length_toList, h3]
  exact Nat.min_eq_left (Nat.mul_le_mul_right _ h1)
theorem RowQ.shape (h : RowQ Te sz w v n vs) : ∃ a c, v = .slice a n c ∧ n ≤ c ∧ c ≤ maxLen := by
  rcases h.cases with ⟨rfl, rfl, _⟩ | ⟨g, cap, cur, rfl, _, h1, h2, _⟩
  · exact ⟨none, 0, rfl, Nat.le_refl _, by unfold maxLen; omega⟩
  · exact ⟨_, _, rfl, h1, h2⟩
theorem RowQ.block (h : RowQ Te sz w v n vs) {k : Nat} (hk : v.ownBlock = some k) : ∃ cur, w.heap[k]? = some (.cells cur Te (0, 0)) := by
  rcases h.cases with ⟨rfl, _, _⟩ | ⟨g, cap, cur, rfl, hg, _⟩
  · simp [Value.ownBlock] at hk
  · simp [Value.ownBlock] at hk
    subst hk
    exact ⟨_, hg⟩
theorem RowQ.lt (h : RowQ Te sz w v n vs) {k : Nat} (hk : v.ownBlock = some k) : k < w.heap.size := by
  obtain ⟨_, hg⟩ := h.block hk
  exact (Array.getElem?_eq_some_iff.1 hg).1
theorem RowQ.kept (h : RowQ Te sz w v n vs) (hk : ∀ k, v.ownBlock = some k → w'.heap[k]? = w.heap[k]?) : RowQ Te sz w' v n vs := by
  refine ⟨⟨h.1.1, ?_⟩, h.2⟩
  rcases h.1.2 with h | ⟨g, cap, cur, rfl, h1, h2, h3⟩
  · exact .inl h
  · exact .inr ⟨g, cap, cur, rfl, h1, (hk g rfl).trans h2, h3⟩
theorem RowQ.below (h : RowQ Te sz w v n vs) (hb : Below w.heap.size w w') : RowQ Te sz w' v n vs := h.kept fun k e => hb.block k (h.lt e)
theorem RowQ.cell (h : RowQ Te sz w v n vs) {g : Nat} (hg : v.ownBlock = some g) {j : Nat} {u : Value} (hj : vs[j]? = some u) : w.cell? ⟨g, j, none⟩ = some u := by
  rcases h.cases with ⟨rfl, _, _⟩ | ⟨g', cap, cur, rfl, hb, _, _, _, ht⟩
  · simp [Value.ownBlock] at hg
  · simp [Value.ownBlock] at hg
    subst hg
    subst ht
    rw [List.getElem?_take] at hj
    split at hj
    · simp [World.cell?, hb, ← Array.getElem?_toList, hj]
    · cases hj
end
section
variable {P : Program} {T Te : TypeId} {n : Nat} {ops : Array Oper} {rest : List Oper} {o : Oper} {a : Act} {Q : Exit → Act → World → Prop} {w : World} {K : Act → World → Prop}
theorem wp_sliceRaw (hP : LsP P T Te n) {x : Operand} {lo hi : Option Operand} (ho : o.op = .slice T x lo hi none) {ad : Option Addr} {k c : Nat} (hx : a.eval x = .slice ad k c) {lov hiv : Option Value} (hlo : lo.map a.eval = lov) (hhi : hi.map a.eval = hiv)
    {l r : Nat} (hb : (Instr.sliceBounds true k c lov hiv none).run P w = .ok (l, r, c) w)
    (h : K (a.put o.dst (.slice (if c = l then ad else ad.map (·.add (l * n))) (r - l) (c - l))) w) : o.wp P a w K Q := by
  subst hlo; subst hhi
  unfold Oper.wp execOp
  simp only [ho, hx, Option.map_none, Sem.run_bind, Sem.run_pure, Result.andThen_ok, run_sliceL hP hb]
  exact h
theorem wp_sliceAny (hP : LsP P T Te n) {x : Operand} {lo hi : Option Operand} (ho : o.op = .slice T x lo hi none) {ad : Option Addr} {k c : Nat} (hx : a.eval x = .slice ad k c) {lov hiv : Option Value} (hlo : lo.map a.eval = lov) (hhi : hi.map a.eval = hiv)
    {l r : Nat} (hb : (Instr.sliceBounds true k c lov hiv none).run P w = .ok (l, r, c) w)
    (h : ∀ ad', K (a.put o.dst (.slice ad' (r - l) (c - l))) w) : o.wp P a w K Q := wp_sliceRaw hP ho hx hlo hhi hb (h _)
theorem wp_sliceFrom (hP : LsP P T Te n) {x : Operand} {lo hi : Option Operand} (ho : o.op = .slice T x lo hi none) {g off k c : Nat} (hx : a.eval x = .slice (some ⟨g, off, none⟩) k c) {lov hiv : Option Value} (hlo : lo.map a.eval = lov) (hhi : hi.map a.eval = hiv)
    {l r : Nat} (hb : (Instr.sliceBounds true k c lov hiv none).run P w = .ok (l, r, c) w) (hne : c ≠ l)
    (h : K (a.put o.dst (.slice (some ⟨g, off + l * n, none⟩) (r - l) (c - l))) w) : o.wp P a w K Q := by
  refine wp_sliceRaw hP ho hx hlo hhi hb ?_
  rw [if_neg hne]
  simpa [Addr.add_lit] using h
theorem wp_sliceTo (hP : LsP P T Te n) {x : Operand} {hi : Option Operand} (ho : o.op = .slice T x none hi none) {g off k c : Nat} (hx : a.eval x = .slice (some ⟨g, off, none⟩) k c) {hiv : Option Value} (hhi : hi.map a.eval = hiv)
    {r : Nat} (hb : (Instr.sliceBounds true k c none hiv none).run P w = .ok (0, r, c) w)
    (h : K (a.put o.dst (.slice (some ⟨g, off, none⟩) r c)) w) : o.wp P a w K Q := by
  refine wp_sliceRaw hP ho hx rfl hhi hb ?_
  simp only [Nat.sub_zero, Nat.zero_mul, Option.map_some, Addr.add_lit, Nat.add_zero]
  split <;> exact h
theorem wpList_sliceAny (hP : LsP P T Te n) {x : Operand} {lo hi : Option Operand} (ho : o.op = .slice T x lo hi none) (hgd : Region.wanted o (yielded ops a.tmps) = true) {ad : Option Addr} {k c : Nat} (hx : a.eval x = .slice ad k c)
    {l r : Nat} (hb : (Instr.sliceBounds true k c (lo.map a.eval) (hi.map a.eval) none).run P w = .ok (l, r, c) w)
    (h : ∀ ad', wpList P ops Q rest (a.put o.dst (.slice ad' (r - l) (c - l))) w) : wpList P ops Q (o :: rest) a w :=
  BigFrame.wpList_want hgd fun _ hK => wp_sliceAny hP ho hx rfl rfl hb fun ad' => hK _ _ (h ad')
theorem wpList_sliceFrom (hP : LsP P T Te n) {x : Operand} {lo hi : Option Operand} (ho : o.op = .slice T x lo hi none) (hgd : Region.wanted o (yielded ops a.tmps) = true) {g off k c : Nat} (hx : a.eval x = .slice (some ⟨g, off, none⟩) k c)
    {l r : Nat} (hb : (Instr.sliceBounds true k c (lo.map a.eval) (hi.map a.eval) none).run P w = .ok (l, r, c) w) (hne : c ≠ l)
    (h : wpList P ops Q rest (a.put o.dst (.slice (some ⟨g, off + l * n, none⟩) (r - l) (c - l))) w) : wpList P ops Q (o :: rest) a w :=
  BigFrame.wpList_want hgd fun _ hK => wp_sliceFrom hP ho hx rfl rfl hb hne (hK _ _ h)
theorem wpList_sliceTo (hP : LsP P T Te n) {x : Operand} {hi : Option Operand} (ho : o.op = .slice T x none hi none) (hgd : Region.wanted o (yielded ops a.tmps) = true) {g off k c : Nat} (hx : a.eval x = .slice (some ⟨g, off, none⟩) k c)
    {r : Nat} (hb : (Instr.sliceBounds true k c none (hi.map a.eval) none).run P w = .ok (0, r, c) w)
    (h : wpList P ops Q rest (a.put o.dst (.slice (some ⟨g, off, none⟩) r c)) w) : wpList P ops Q (o :: rest) a w :=
  BigFrame.wpList_want hgd fun _ hK => wp_sliceTo hP ho hx rfl hb (hK _ _ h)
theorem run_copyRaw (hP : LsP P T Te n) (w : World) (ty : TypeId) {sa : Addr} {nx cx : Nat} {cs : List Value} {g off dl dc : Nat} {cur : Array Value} {t : TypeId}
    (hg : w.heap[g]? = some (.cells cur t (0, 0))) (hl : cs.length = min nx dl * n) (hc : ∀ j u, cs[j]? = some u → w.cell? (sa.add j) = some u) (h1 : ∀ u ∈ cs, u.oneCell' = true) (hfit : off + cs.length ≤ cur.size) :
    (Builtin.copy_ #[T, T] ty #[.slice (some ⟨g, off, none⟩) dl dc, .slice (some sa) nx cx]).run P w = .ok (.int .i64 (min nx dl : Nat)) (w.setRow g (cur.toList.take off ++ cs ++ cur.toList.drop (off + cs.length)).toArray) := by
  obtain ⟨i, hi, hsz⟩ := hP.info
  have hst := run_storeCells_at P g off t cs 0 cur w hg (by simpa using hfit) h1
  simp only [Nat.add_zero] at hst
  have hfc : (Builtin.firstCells n (Nat.min nx dl) (.slice (some sa) nx cx)).run P w = .ok cs.toArray w := by
    have := run_loadCells_list (P := P) w sa cs hc
    rw [hl] at this
    simpa [Builtin.firstCells] using this
  simp [Builtin.copy_, run_underlying hP.hT, Builtin.lenOf, sizeOf, typeInfo, hi, hsz, hfc, hst, goInt]
theorem wp_copyRaw (hP : LsP P T Te n) {d s : Operand} (ho : o.op = .call { callee := .builtin .copy, args := #[d, s], argTypes := #[T, T] }) {sa : Addr} {nx cx : Nat} {cs : List Value} {g off dl dc : Nat} {cur : Array Value} {t : TypeId} (hd : a.eval d = .slice (some ⟨g, off, none⟩) dl dc) (hs : a.eval s = .slice (some sa) nx cx)
    (hg : w.heap[g]? = some (.cells cur t (0, 0))) (hl : cs.length = min nx dl * n) (hc : ∀ j u, cs[j]? = some u → w.cell? (sa.add j) = some u) (h1 : ∀ u ∈ cs, u.oneCell' = true) (hfit : off + cs.length ≤ cur.size)
    (h : ∀ w', w'.heap[g]? = some (.cells (cur.toList.take off ++ cs ++ cur.toList.drop (off + cs.length)).toArray t (0, 0)) → w.grownBy w' (some g) → K (a.put o.dst (.int .i64 (min nx dl : Nat))) w') : o.wp P a w K Q := by
  have hr := run_copyRaw hP w o.type hg hl hc h1 hfit (dc := dc) (cx := cx)
  unfold Oper.wp execOp
  simp only [ho, resolve, invoke, builtin, Sem.run_bind, Sem.run_pure, Result.andThen_ok, List.map_toArray, List.map_cons, List.map_nil, hd, hs, hr]
  exact h _ (setRow_heap _ _ _ _ _ _ hg) (grown_setRow _ _ _)
theorem wpList_copyRaw (hP : LsP P T Te n) {d s : Operand} (ho : o.op = .call { callee := .builtin .copy, args := #[d, s], argTypes := #[T, T] }) (hgd : Region.wanted o (yielded ops a.tmps) = true) {sa : Addr} {nx cx : Nat} {cs : List Value} {g off dl dc : Nat} {cur : Array Value} {t : TypeId} (hd : a.eval d = .slice (some ⟨g, off, none⟩) dl dc) (hs : a.eval s = .slice (some sa) nx cx)
    (hg : w.heap[g]? = some (.cells cur t (0, 0))) (hl : cs.length = min nx dl * n) (hc : ∀ j u, cs[j]? = some u → w.cell? (sa.add j) = some u) (h1 : ∀ u ∈ cs, u.oneCell' = true) (hfit : off + cs.length ≤ cur.size)
    (h : ∀ w', w'.heap[g]? = some (.cells (cur.toList.take off ++ cs ++ cur.toList.drop (off + cs.length)).toArray t (0, 0)) → w.grownBy w' (some g) → wpList P ops Q rest (a.put o.dst (.int .i64 (min nx dl : Nat))) w') : wpList P ops Q (o :: rest) a w :=
  BigFrame.wpList_want hgd fun _ hK => wp_copyRaw hP ho hd hs hg hl hc h1 hfit fun w' h2 h3 => hK _ _ (h w' h2 h3)
def RowTo (Te : TypeId) (sz : Nat) (w : World) (v : Value) (n' : Nat) (vs' : List Value) (v' : Value) (w' : World) : Prop :=
  RowQ Te sz w' v' n' vs' ∧ w.grownBy w' v.ownBlock ∧ (v'.ownBlock = v.ownBlock ∨ ∃ k, v'.ownBlock = some k ∧ w.heap.size ≤ k)
theorem run_appQ (hP : LoP P T Te n) (h0 : 0 < n) (w : World) (ty : TypeId) {v : Value} {k : Nat} {vs : List Value} (hv : RowQ Te n w v k vs) {p : Addr} {m c : Nat} {cs : List Value} (hl : cs.length = m * n) (hc : ∀ j u, cs[j]? = some u → w.cell? (p.add j) = some u) (h1 : ∀ u ∈ cs, u.oneCell' = true) (hlen : k + m ≤ 1073741824) :
    ∃ v' w', (Builtin.append_ #[T, T] ty #[v, .slice (some p) m c]).run P w = .ok v' w' ∧ RowTo Te n w v (k + m) (vs ++ cs) v' w' := by
  obtain ⟨i, z, hi, hz, hsz, hby, hzs⟩ := hP.all
  obtain ⟨v', w', hr, ho, hg, _, hb⟩ := run_append_own_at (P := P) (w := w) 0 T ty Te i z n i.bytes hP.hT hi hz hsz rfl hzs h0 v k vs hv.1 p m c cs hl hc h1 (by unfold maxLen; omega)
    (by have := Nat.mul_le_mul hlen hby; omega) (Nat.zero_le _)
  exact ⟨v', w', hr, ⟨ho, fun u hu => (List.mem_append.1 hu).elim (hv.2 u) (h1 u)⟩, hg, hb.imp id fun e => ⟨_, e, Nat.le_refl _⟩⟩
theorem wp_appQ (hP : LoP P T Te n) (h0 : 0 < n) {s x : Operand} (ho : o.op = .call { callee := .builtin .append, args := #[s, x], argTypes := #[T, T] }) {v : Value} {k : Nat} {vs : List Value} (hs : a.eval s = v) (hv : RowQ Te n w v k vs) {p : Addr} {m c : Nat} {cs : List Value} (hx : a.eval x = .slice (some p) m c)
    (hl : cs.length = m * n) (hc : ∀ j u, cs[j]? = some u → w.cell? (p.add j) = some u) (h1 : ∀ u ∈ cs, u.oneCell' = true) (hlen : k + m ≤ 1073741824)
    (h : ∀ ad cap w', RowTo Te n w v (k + m) (vs ++ cs) (.slice ad (k + m) cap) w' → K (a.put o.dst (.slice ad (k + m) cap)) w') : o.wp P a w K Q := by
  obtain ⟨v', w', hrun, h2⟩ := run_appQ hP h0 w o.type hv hl hc h1 hlen (c := c)
  obtain ⟨ad, cap, rfl, _⟩ := h2.1.shape
  unfold Oper.wp execOp
  simp only [ho, resolve, invoke, builtin, Sem.run_bind, Sem.run_pure, Result.andThen_ok, List.map_toArray, List.map_cons, List.map_nil, hs, hx, hrun]
  exact h _ _ _ h2
theorem wpList_appQ (hP : LoP P T Te n) (h0 : 0 < n) {s x : Operand} (ho : o.op = .call { callee := .builtin .append, args := #[s, x], argTypes := #[T, T] }) (hgd : Region.wanted o (yielded ops a.tmps) = true) {v : Value} {k : Nat} {vs : List Value} (hs : a.eval s = v) (hv : RowQ Te n w v k vs) {p : Addr} {m c : Nat} {cs : List Value} (hx : a.eval x = .slice (some p) m c)
    (hl : cs.length = m * n) (hc : ∀ j u, cs[j]? = some u → w.cell? (p.add j) = some u) (h1 : ∀ u ∈ cs, u.oneCell' = true) (hlen : k + m ≤ 1073741824)
    (h : ∀ ad cap w', RowTo Te n w v (k + m) (vs ++ cs) (.slice ad (k + m) cap) w' → wpList P ops Q rest (a.put o.dst (.slice ad (k + m) cap)) w') : wpList P ops Q (o :: rest) a w :=
  BigFrame.wpList_want hgd fun _ hK => wp_appQ hP h0 ho hs hv hx hl hc h1 hlen fun ad cap w' h2 => hK _ _ (h ad cap w' h2)
theorem run_appZ (hP : LoP P T Te n) (h0 : 0 < n) {Ti : TypeId} (hTi : P.underlying Ti = some (.int .i64)) (w : World) (ty : TypeId) {p : Option Addr} {k cap : Nat} {cs : List Value} (hl : cs.length = k * n) (hc : ∀ q, p = some q → ∀ j u, cs[j]? = some u → w.cell? (q.add j) = some u) (hm : p = none → k = 0) {m : Nat} (hm0 : 0 < m) (hg : cap < k + m) (hlen : k + m ≤ 1073741824) :
    ∃ (G : Nat) (cur : Array Value), k + m ≤ G ∧ G ≤ maxLen ∧ cur.size = G * n ∧ cur.toList.take (k * n) = cs ∧
      (Builtin.append_ #[T, Ti] ty #[.slice p k cap, .int .i64 m]).run P w = .ok (.slice (some ⟨w.heap.size, 0, none⟩) (k + m) G) (w.drew.alloc (.cells cur Te)) := by
  obtain ⟨i, z, hi, hz, hsz, hby, hzs⟩ := hP.all
  have hold : (Builtin.firstCells i.size k (.slice p k cap)).run P w.drew = .ok cs.toArray w.drew := by
    rw [hsz]
    cases p with
    | none =>
      obtain rfl := hm rfl
      obtain rfl : cs = [] := List.eq_nil_of_length_eq_zero (by omega)
      simp [Builtin.firstCells]
    | some q => exact run_firstCells_some w.drew n k q k cap cs hl (hc q rfl)
  have hbytes : (k + m) * i.bytes ≤ 1073741824 * 4096 := Nat.mul_le_mul hlen hby
  have hmb : m * i.bytes ≤ 1073741824 * 4096 := Nat.mul_le_mul (by omega) hby
  have hr := Lib.run_append_grow_zeros w T Ti ty Te i z .i64 .i64 hP.hT hTi hi hz p k cap cs hold m hm0 (by omega) hg (by omega) (by omega) (growslice_fits hg (by omega))
  refine ⟨_, _, grownCap_ge w (k + m) cap Te, grownCap_le_maxLen w _ _ _ (by unfold maxLen; omega), ?_, ?_, hr⟩
  · have hge := grownCap_ge w (k + m) cap Te
    simp only [Array.size_append, List.size_toArray, size_zeroCells, hzs, hl, ← Nat.add_mul]
    congr 1
    omega
  · simp only [Array.toList_append, List.append_assoc]
    rw [← hl]
    exact List.take_left
theorem wpList_appZ (hP : LoP P T Te n) (h0 : 0 < n) {Ti : TypeId} (hTi : P.underlying Ti = some (.int .i64)) {s x : Operand} (ho : o.op = .call { callee := .builtin .append, args := #[s, x], argTypes := #[T, Ti] }) (hgd : Region.wanted o (yielded ops a.tmps) = true) {p : Option Addr} {k cap m : Nat} {i : Int} (hs : a.eval s = .slice p k cap) (hx : a.eval x = .int .i64 i) (him : i = (m : Int))
    {cs : List Value} (hl : cs.length = k * n) (hc : ∀ q, p = some q → ∀ j u, cs[j]? = some u → w.cell? (q.add j) = some u) (hm : p = none → k = 0) (hm0 : 0 < m) (hg : cap < k + m) (hlen : k + m ≤ 1073741824)
    (h : ∀ (G : Nat) (cur : Array Value), k + m ≤ G → G ≤ maxLen → cur.size = G * n → cur.toList.take (k * n) = cs → wpList P ops Q rest (a.put o.dst (.slice (some ⟨w.heap.size, 0, none⟩) (k + m) G)) (w.drew.alloc (.cells cur Te))) : wpList P ops Q (o :: rest) a w := by
  subst him
  refine BigFrame.wpList_want hgd fun K hK => ?_
  obtain ⟨G, cur, h1, h2, h3, h4, hr⟩ := run_appZ hP h0 hTi w o.type hl hc hm hm0 hg hlen
  unfold Oper.wp execOp
  simp only [ho, resolve, invoke, builtin, Sem.run_bind, Sem.run_pure, Result.andThen_ok, List.map_toArray, List.map_cons, List.map_nil, hs, hx, hr]
  exact hK _ _ (h G cur h1 h2 h3 h4)
theorem run_clearQ (hP : LoP P T Te n) (hz1 : ∀ i z, P.info? Te = some i → i.zero = some z → ∀ u ∈ z.cells.toList, u.oneCell' = true) (w : World) (ty : TypeId) {ad : Option Addr} {m c : Nat} {g off : Nat} {cur : Array Value} {t : TypeId} (hg : w.heap[g]? = some (.cells cur t (0, 0))) (had : m = 0 ∨ ad = some ⟨g, off, none⟩) (hfit : m = 0 ∨ off + m * n ≤ cur.size) :
    ∃ w' cur', (Builtin.clear_ #[T] ty #[.slice ad m c]).run P w = .ok (.tuple #[]) w' ∧ w'.heap[g]? = some (.cells cur' t (0, 0)) ∧ cur'.size = cur.size ∧ (m ≠ 0 → cur'.toList.take off = cur.toList.take off) ∧ (m = 0 → cur' = cur) ∧ w.grownBy w' (some g) := by
  obtain ⟨i, z, hi, hz, hsz, hby, hzs⟩ := hP.all
  by_cases h0 : m = 0
  · subst h0
    refine ⟨w, cur, ?_, hg, rfl, fun _ => rfl, fun _ => rfl, ⟨rfl, rfl, rfl, Nat.le_refl _, fun _ _ _ => rfl⟩⟩
    cases ad <;> simp [Builtin.clear_, run_underlying hP.hT]
  · obtain rfl := had.resolve_left h0
    have hfit := hfit.resolve_left h0
    have hzl : (Builtin.zeroCells z.cells m).toList.length = m * n := by rw [Array.length_toList, size_zeroCells, hzs]
    have h1 : ∀ u ∈ (Builtin.zeroCells z.cells m).toList, u.oneCell' = true := by
      intro u hu
      simp only [Builtin.zeroCells, Array.toList_map, List.mem_map] at hu
      obtain ⟨j, hj, rfl⟩ := hu
      simp only [Array.toList_range, List.mem_range] at hj
      have h2 : 0 < z.cells.size := by
        rcases Nat.eq_zero_or_pos z.cells.size with h | h
        · rw [h, Nat.mul_zero] at hj; omega
        · exact h
      have h3 := Nat.mod_lt j h2
      rw [getElem!_pos z.cells _ h3]
      exact hz1 i z hi hz _ (by simp)
    have hst := run_storeCells_at P g off t _ 0 cur w hg (by rw [hzl]; simpa using hfit) h1
    simp only [Nat.add_zero] at hst
    refine ⟨_, (cur.toList.take off ++ (Builtin.zeroCells z.cells m).toList ++ cur.toList.drop (off + (Builtin.zeroCells z.cells m).toList.length)).toArray, ?_, setRow_heap w g cur _ t _ hg, ?_, ?_, fun h => absurd h h0, grown_setRow _ _ _⟩
    rotate_left
    · simp only [List.size_toArray, List.length_append, List.length_take, List.length_drop, hzl, Array.length_toList]
      omega
    · intro _
      simp only [List.append_assoc]
      rw [List.take_append_of_le_length (by rw [List.length_take, Array.length_toList]; omega), List.take_take, Nat.min_self]
    · obtain ⟨m', rfl⟩ : ∃ m', m = m' + 1 := ⟨m - 1, by omega⟩
      have hzv : (zeroValue Te).run P w = .ok z w := by simp [zeroValue, typeInfo, hi, hz]
      simp only [Builtin.clear_, List.getElem?_toArray, List.getElem?_cons_zero, Sem.run_bind, run_underlying hP.hT, Result.andThen_ok, hzv, hst, Sem.run_pure]
end
end Go.Proofs.Ytcopdnigfnmnkaa
namespace Go.Proofs.Ytcopdnigfnmnkaa
open Go.RowKit
def RetRow (Te : TypeId) (sz : Nat) (w : World) (v : Value) (n' : Nat) (vs' : List Value) (e : Ending) (w' : World) : Prop := ∃ v', e = .returned v' ∧ RowTo Te sz w v n' vs' v' w'
theorem new_cells {w : World} {b : Nat} {us : List Value} {t : TypeId} (hb : w.heap[b]? = some (.cells us.toArray t (0, 0))) (j : Nat) (u : Value) (h : us[j]? = some u) : w.cell? (Addr.add ⟨b, 0, none⟩ j) = some u := by
  simp [Addr.add_lit, World.cell?, hb, h]
theorem ins_cells {cur us : List Value} {p q r : Nat} (h1 : p ≤ q) (h2 : us.length = r) (h3 : q + r ≤ cur.length) :
    ((cur.take (p + r) ++ (cur.take q).drop p ++ cur.drop (p + r + ((cur.take q).drop p).length)).take p ++ us ++ (cur.take (p + r) ++ (cur.take q).drop p ++ cur.drop (p + r + ((cur.take q).drop p).length)).drop (p + us.length)).take (q + r) = (cur.take q).take p ++ us ++ (cur.take q).drop p := by
  have e0 : ((cur.take q).drop p).length = q - p := by rw [List.length_drop, List.length_take]; omega
  have e1 : (cur.take (p + r) ++ (cur.take q).drop p ++ cur.drop (p + r + ((cur.take q).drop p).length)).take p = (cur.take q).take p := by
    rw [List.append_assoc, List.take_append_of_le_length (by rw [List.length_take]; omega), List.take_take, List.take_take]
    congr 1; omega
  have e2 : (cur.take (p + r) ++ (cur.take q).drop p ++ cur.drop (p + r + ((cur.take q).drop p).length)).drop (p + us.length) = (cur.take q).drop p ++ cur.drop (p + r + (q - p)) := by
    rw [e0, h2, List.append_assoc, List.drop_append_of_le_length (by rw [List.length_take]; omega), List.drop_of_length_le (by rw [List.length_take]; omega), List.nil_append]
  rw [e1, e2, ← List.append_assoc]
  rw [List.take_append_of_le_length (by simp only [List.length_append, List.length_take, List.length_drop, h2]; omega), List.take_of_length_le (by simp only [List.length_append, List.length_take, List.length_drop, h2]; omega)]
theorem ins_new {cur vs us : List Value} {p q r : Nat} (h1 : p ≤ q) (h0 : vs.length = q) (h2 : us.length = r) (h4 : cur.take p = vs.take p) :
    ((cur.take p ++ us ++ cur.drop (p + us.length)).take (p + r) ++ vs.drop p ++ (cur.take p ++ us ++ cur.drop (p + us.length)).drop (p + r + (vs.drop p).length)).take (q + r) = vs.take p ++ us ++ vs.drop p := by
  have e0 : (vs.drop p).length = q - p := by rw [List.length_drop, h0]
  have e1 : (cur.take p ++ us ++ cur.drop (p + us.length)).take (p + r) = vs.take p ++ us := by
    rw [h4, List.take_append_of_le_length (by simp only [List.length_append, List.length_take, h2]; omega), List.take_of_length_le (by simp only [List.length_append, List.length_take, h2]; omega)]
  rw [e1, List.take_append_of_le_length (by simp only [List.length_append, List.length_take, List.length_drop, h2]; omega), List.take_of_length_le (by simp only [List.length_append, List.length_take, List.length_drop, h2]; omega)]
theorem overlaps_apart {P : Program} {T Te Tb : TypeId} {sz : Nat} (hP : LsP P T Te sz) {f : FuncId} {fn : Func} (hf : P.funcs[f]? = some fn) (hname : (fn.name == "runtime.NumGoroutine") = false) (hb : fn.body.isNone = true) (hn : Extern.findNext fn = none) (he : Extern.find fn = some (Extern.SlicesOverlaps.overlaps #[T, T] #[Tb]))
    {w : World} {b g off m k mc kc : Nat} {us : List Value} {cur : Array Value} (hbc : w.heap[b]? = some (.cells us.toArray Te (0, 0))) (hg : w.heap[g]? = some (.cells cur Te (0, 0))) (hne : b ≠ g) (hcur : cur.size ≠ 0) :
    (callFunc f #[.slice (some ⟨b, 0, none⟩) m mc, .slice (some ⟨g, off, none⟩) k kc]).run P w = .ok (.value (.bool false)) w := by
  obtain ⟨i, hi, hsz⟩ := hP.info
  rw [run_callFunc_extern hf hname hb hn he, Lib.run_overlaps_apart w T Tb Te hP.hT sz (fun w => by simp [sizeOf, typeInfo, hi, hsz]) ⟨b, 0, none⟩ ⟨g, off, none⟩ m mc k kc hne Te Te us.length cur.size (by simp [World.shape?, hbc]) (by simp [World.shape?, hg]) hcur (by simp [World.frozen?, hbc]) (by simp [World.frozen?, hbc])]
  rfl
section
variable {P : Program} {T Te : TypeId} {n : Nat} {ops : Array Oper} {rest : List Oper} {o : Oper} {a : Act} {Q : Exit → Act → World → Prop} {w : World} {K : Act → World → Prop}
theorem wpList_clearQ (hP : LoP P T Te n) (hz1 : ∀ i z, P.info? Te = some i → i.zero = some z → ∀ u ∈ z.cells.toList, u.oneCell' = true) {x : Operand} (ho : o.op = .call { callee := .builtin .clear, args := #[x], argTypes := #[T] }) (hd : o.dst = none) (hgd : Region.wanted o (yielded ops a.tmps) = true) {ad : Option Addr} {m c : Nat} (hx : a.eval x = .slice ad m c) {g off : Nat} {cur : Array Value} {t : TypeId} (hg : w.heap[g]? = some (.cells cur t (0, 0))) (had : m = 0 ∨ ad = some ⟨g, off, none⟩) (hfit : m = 0 ∨ off + m * n ≤ cur.size)
    (h : ∀ w' cur', w'.heap[g]? = some (.cells cur' t (0, 0)) → cur'.size = cur.size → (m ≠ 0 → cur'.toList.take off = cur.toList.take off) → (m = 0 → cur' = cur) → w.grownBy w' (some g) → wpList P ops Q rest a w') : wpList P ops Q (o :: rest) a w := by
  refine BigFrame.wpList_want hgd fun K hK => ?_
  obtain ⟨w', cur', hr, h1, h2, h3, h4, h5⟩ := run_clearQ hP hz1 w o.type hg had hfit (c := c)
  unfold Oper.wp execOp
  simp only [ho, resolve, invoke, builtin, Sem.run_bind, Sem.run_pure, Result.andThen_ok, List.map_toArray, List.map_cons, List.map_nil, hx, hr]
  refine hK _ _ ?_
  rw [hd]
  exact h w' cur' h1 h2 h3 h4 h5
end
theorem ones_of {t : TypeId} {z0 : Value} (h : (Try.prog.info? t).bind (·.zero) = some z0) (h1 : ∀ u ∈ z0.cells.toList, u.oneCell' = true) : ∀ i z, Try.prog.info? t = some i → i.zero = some z → ∀ u ∈ z.cells.toList, u.oneCell' = true := fun i z hi hz => by
  rw [hi] at h
  simp only [Option.bind_some, hz] at h
  cases h
  exact h1
end Go.Proofs.Ytcopdnigfnmnkaa
namespace Go.Proofs.Ytcopdnigfnmnkaa
open Go.RowKit
set_option maxRecDepth 100000 in
set_option maxHeartbeats 4000000 in
theorem insertEnd_s (w : World) {v : Value} {i b m : Nat} {vs us : List Value} (hv : RowQ 24 4 w v i vs) (hn : i + m ≤ 1000000) (hm : 0 < m) (hb : w.heap[b]? = some (.cells us.toArray 24 (0, 0))) (hu : us.length = m * 4) (hu1 : ∀ u ∈ us, u.oneCell' = true) :
    Calls Try.prog 42 #[v, .int .i64 i, .slice (some ⟨b, 0, none⟩) m m] w (RetRow 24 4 w v (i + m) (vs.take (i * 4) ++ us ++ vs.drop (i * 4))) := by
  have hz1 : ((m : Int) == 0) = false := beq_eq_false_iff_ne.2 (by omega)
  have hcs := new_cells hb
  have hl : vs.take (i * 4) ++ us ++ vs.drop (i * 4) = vs ++ us := by rw [List.take_of_length_le (by rw [hv.len]; omega), List.drop_of_length_le (by rw [hv.len]; omega), List.append_nil]
  rw [hl]
  clear hl
  obtain ⟨a, c, rfl, hnc, hcm⟩ := hv.shape
  go_enter Try.func42, Try.ntmps42
  go_upto_region 7 with (go_big_may; first
    | (refine wpList_sliceAny spP.toLsP rfl rfl rfl (l := i) (r := i) (run_bounds_l _ (by omega)) ?_; intro _)
    | fail)
  go_wp2_with (first
    | (refine wpList_appQ spP (by omega) rfl rfl rfl hv rfl hu hcs hu1 (by omega) ?_; intro ad cap w' hR)
    | fail)
  go_ret
  exact ⟨_, rfl, hR⟩
set_option maxRecDepth 100000 in
set_option maxHeartbeats 4000000 in
theorem insertGrow_s (w : World) {n i b m g cap : Nat} {vs us : List Value} (hv : RowQ 24 4 w (.slice (some ⟨g, 0, none⟩) n cap) n vs) (hi : i < n) (hn : n + m ≤ 1000000) (hm : 0 < m) (hb : w.heap[b]? = some (.cells us.toArray 24 (0, 0))) (hu : us.length = m * 4) (hu1 : ∀ u ∈ us, u.oneCell' = true) (hnc : n ≤ cap) (hroom : cap < n + m) :
    Calls Try.prog 42 #[.slice (some ⟨g, 0, none⟩) n cap, .int .i64 i, .slice (some ⟨b, 0, none⟩) m m] w (RetRow 24 4 w (.slice (some ⟨g, 0, none⟩) n cap) (n + m) (vs.take (i * 4) ++ us ++ vs.drop (i * 4))) := by
  have hz1 : ((m : Int) == 0) = false := beq_eq_false_iff_ne.2 (by omega)
  have hz2 : ((i : Int) == (n : Int)) = false := beq_eq_false_iff_ne.2 (by omega)
  have hz3 : decide ((cap : Int) < (n : Int) + (m : Int)) = true := decide_eq_true (by omega)
  have hcs := new_cells hb
  have hglt := hv.lt (k := g) rfl
  have hblt := (Array.getElem?_eq_some_iff.1 hb).1
  have hcs0 : ∀ (j : Nat) (u : Value), (vs.take (i * 4))[j]? = some u → w.cell? (Addr.add ⟨g, 0, none⟩ j) = some u := fun j u hj => by
    rw [List.getElem?_take] at hj
    split at hj
    · rw [Addr.add_lit, Nat.zero_add]; exact hv.cell rfl hj
    · cases hj
  have hl0 : (vs.take (i * 4)).length = i * 4 := by rw [List.length_take, hv.len]; exact Nat.min_eq_left (Nat.mul_le_mul_right _ (Nat.le_of_lt hi))
  go_enter Try.func42, Try.ntmps42
  go_upto_region 10 with (go_big_may; first
    | (refine wpList_sliceAny spP.toLsP rfl rfl rfl (l := i) (r := n) (run_bounds_l _ (by omega)) ?_; intro _)
    | (refine wpList_sliceTo spP.toLsP rfl rfl rfl (r := i) (run_bounds_h _ (by omega)) ?_)
    | (refine wpList_appZ spP (by omega) (by kernel_rfl) rfl rfl rfl (m := n + m - i) rfl (by omega) hl0 (fun q hq => by cases hq; exact hcs0) (fun h => by cases h) (by omega) (by omega) (by omega) ?_; intro G cr hG1 hG2 hG3 hG4)
    | fail)
  have hL : i + (n + m - i) = n + m := by omega
  rw [hL] at hG1 ⊢
  clear hL
  have hg1 : ((w.alloc (.cells cr 24)).drew).heap[w.heap.size]? = some (.cells cr 24 (0, 0)) := by simp only [World.alloc, World.drew, Array.getElem?_push_size]
  have q1 : Below w.heap.size w ((w.alloc (.cells cr 24)).drew) := ((Below.refl _ _).alloc (Nat.le_refl _) _).drew
  generalize (w.alloc (.cells cr 24)).drew = W1 at *
  have hcs1 : ∀ (j : Nat) (u : Value), us[j]? = some u → W1.cell? (Addr.add ⟨b, 0, none⟩ j) = some u := fun j u hj => by
    have := hcs j u hj
    rw [Addr.add_lit] at this ⊢
    exact (cell_keep (q1.block b hblt) _).trans this
  have hGs : (n + m) * 4 ≤ G * 4 := Nat.mul_le_mul_right _ hG1
  have hLs : (n + m) * 4 = n * 4 + m * 4 := by rw [Nat.add_mul]
  have his : i * 4 ≤ n * 4 := Nat.mul_le_mul_right _ (Nat.le_of_lt hi)
  go_upto_region 11 with (go_big_may; first
    | (refine wpList_sliceFrom spP.toLsP rfl rfl rfl (l := i) (r := n + m) (run_bounds_l _ (by omega)) (by omega) ?_)
    | (refine wpList_copyRaw spP.toLsP rfl rfl rfl rfl hg1 (cs := us) (by rw [Nat.min_eq_left (by omega)]; exact hu) hcs1 hu1 (by rw [hG3, hu]; omega) ?_; intro W2 hg2 hgr2)
    | fail)
  have q2 : Below w.heap.size w W2 := q1.grown hgr2 q1.size (fun k hk => by injection hk with hk; omega)
  have hdl : (vs.drop (i * 4)).length = (n - i) * 4 := by rw [List.length_drop, hv.len, Nat.sub_mul]
  have hgc : ∀ (W : World), Below w.heap.size w W → ∀ (j : Nat) (u : Value), (vs.drop (i * 4))[j]? = some u → W.cell? (Addr.add ⟨g, 0 + i * 4, none⟩ j) = some u := fun W hW j u hj => by
    rw [List.getElem?_drop] at hj
    rw [Addr.add_lit, Nat.zero_add]
    exact (cell_keep (hW.block g hglt) _).trans (hv.cell rfl hj)
  obtain ⟨C1, hC1⟩ : ∃ C1 : Array Value, C1 = (cr.toList.take (0 + i * 4) ++ us ++ cr.toList.drop (0 + i * 4 + us.length)).toArray := ⟨_, rfl⟩
  replace hg2 : W2.heap[w.heap.size]? = some (.cells C1 24 (0, 0)) := by rw [hC1]; simpa using hg2
  have hC1s : C1.size = G * 4 := by
    rw [hC1]
    simp only [List.size_toArray, List.length_append, List.length_take, List.length_drop, Array.length_toList, hG3, hu]
    omega
  refine wp_region_lnl (K := fun _ _ => True) (by kernel_rfl) (by kernel_rfl) [8] (by kernel_rfl) [lEq (.slice (some ⟨w.heap.size, 0, none⟩) (n + m) G), lEq (.int .i64 (i : Int)), lEq (.int .i64 (m : Int)), lEq (.int .i64 ((i : Int) + (m : Int))), lEq (.slice (some ⟨w.heap.size, 0 + (i + m) * 4, none⟩) (n + m - (i + m)) (G - (i + m))), lEq (.slice (some ⟨g, 0, none⟩) n cap), lEq (.int .i64 (i : Int)), lEq (.slice (some ⟨g, 0 + i * 4, none⟩) (n - i) (cap - i)), lAny] (fun l W => Below w.heap.size w W ∧ W.heap[w.heap.size]? = some (.cells (match l with | [] => C1 | _ :: _ => (C1.toList.take (0 + (i + m) * 4) ++ vs.drop (i * 4) ++ C1.toList.drop (0 + (i + m) * 4 + (vs.drop (i * 4)).length)).toArray) 24 (0, 0))) (fun l A B h hb => ⟨h.1.trans (hb.mono h.1.size), (hb.block _ (Array.getElem?_eq_some_iff.1 h.2).1).trans h.2⟩) ⟨q2, hg2⟩
    ⟨?o0, ?o1, ?o2, ?o3, ?o4, ?o5, ?o6, ?o7, ?o8, trivial⟩ ?fin
  case o0 =>
    refine LnOp.side rfl (by kernel_rfl) (fun A va w' k hF hT hk hJ hb hu hp hd => ?_)
    have e1 : A.eval (.tmp 9) = .slice (some ⟨w.heap.size, 0, none⟩) (n + m) G := hF 9 rfl
    exact BigFrame.wp_move _ rfl ⟨_, rfl, e1, Below.refl _ _⟩
  case o1 =>
    refine LnOp.side rfl (by kernel_rfl) (fun A va w' k hF hT hk hJ hb hu hp hd => ?_)
    have e1 : A.eval (.tmp 1) = .int .i64 (i : Int) := hF 1 rfl
    exact BigFrame.wp_move _ rfl ⟨_, rfl, e1, Below.refl _ _⟩
  case o2 =>
    refine LnOp.side rfl (by kernel_rfl) (fun A va w' k hF hT hk hJ hb hu hp hd => ?_)
    have e1 : A.eval (.tmp 7) = .int .i64 (m : Int) := hF 7 rfl
    exact BigFrame.wp_move _ rfl ⟨_, rfl, e1, Below.refl _ _⟩
  case o3 =>
    refine LnOp.side rfl (by kernel_rfl) (fun A va w' k hF hT hk hJ hb hu hp hd => ?_)
    have e1 : A.eval (.tmp 47) = .int .i64 (i : Int) := (hT 47 1 (by simp [size_put]) rfl).trans (hd ⟨1, .data⟩ (by simp) rfl rfl)
    have e2 : A.eval (.tmp 48) = .int .i64 (m : Int) := (hT 48 2 (by simp [size_put]) rfl).trans (hd ⟨2, .data⟩ (by simp) rfl rfl)
    exact wp_addI rfl (e1) (e2) (by omega) (by omega) ⟨_, rfl, rfl, Below.refl _ _⟩
  case o4 =>
    refine LnOp.side rfl (by kernel_rfl) (fun A va w' k hF hT hk hJ hb hu hp hd => ?_)
    have e1 : A.eval (.tmp 46) = .slice (some ⟨w.heap.size, 0, none⟩) (n + m) G := (hT 46 0 (by simp [size_put]) rfl).trans (hd ⟨0, .data⟩ (by simp) rfl rfl)
    have e2 : A.eval (.tmp 49) = .int .i64 ((i : Int) + (m : Int)) := (hT 49 3 (by simp [size_put]) rfl).trans (hd ⟨3, .data⟩ (by simp) rfl rfl)
    exact wp_sliceFrom spP.toLsP rfl (e1) (congrArg some e2) rfl (run_bounds_l' _ (by omega) (by omega)) (by omega) ⟨_, rfl, rfl, Below.refl _ _⟩
  case o5 =>
    refine LnOp.side rfl (by kernel_rfl) (fun A va w' k hF hT hk hJ hb hu hp hd => ?_)
    have e1 : A.eval (.tmp 0) = .slice (some ⟨g, 0, none⟩) n cap := hF 0 rfl
    exact BigFrame.wp_move _ rfl ⟨_, rfl, e1, Below.refl _ _⟩
  case o6 =>
    refine LnOp.side rfl (by kernel_rfl) (fun A va w' k hF hT hk hJ hb hu hp hd => ?_)
    have e1 : A.eval (.tmp 1) = .int .i64 (i : Int) := hF 1 rfl
    exact BigFrame.wp_move _ rfl ⟨_, rfl, e1, Below.refl _ _⟩
  case o7 =>
    refine LnOp.side rfl (by kernel_rfl) (fun A va w' k hF hT hk hJ hb hu hp hd => ?_)
    have e1 : A.eval (.tmp 51) = .slice (some ⟨g, 0, none⟩) n cap := (hT 51 5 (by simp [size_put]) rfl).trans (hd ⟨5, .data⟩ (by simp) rfl rfl)
    have e2 : A.eval (.tmp 52) = .int .i64 (i : Int) := (hT 52 6 (by simp [size_put]) rfl).trans (hd ⟨6, .data⟩ (by simp) rfl rfl)
    exact wp_sliceFrom spP.toLsP rfl (e1) (congrArg some e2) rfl (run_bounds_l' _ (by omega) (by omega)) (by omega) ⟨_, rfl, rfl, Below.refl _ _⟩
  case o8 =>
    refine LnOp.line 0 rfl rfl (fun A va w' hF hT hJ hu hd => ?_)
    have e1 : A.eval (.tmp 50) = .slice (some ⟨w.heap.size, 0 + (i + m) * 4, none⟩) (n + m - (i + m)) (G - (i + m)) := (hT 50 4 (by simp [size_put]) rfl).trans (hd ⟨4, .data⟩ (by simp) rfl rfl)
    have e2 : A.eval (.tmp 53) = .slice (some ⟨g, 0 + i * 4, none⟩) (n - i) (cap - i) := (hT 53 7 (by simp [size_put]) rfl).trans (hd ⟨7, .data⟩ (by simp) rfl rfl)
    refine wp_copyRaw spP.toLsP rfl e1 e2 hJ.2 (cs := vs.drop (i * 4)) (by rw [hdl, Nat.min_eq_left (by omega)]) (hgc _ hJ.1) (fun u hu => hv.2 u (List.mem_of_mem_drop hu)) ?_ ?_
    · show 0 + (i + m) * 4 + (vs.drop (i * 4)).length ≤ C1.size
      rw [hC1s, hdl, Nat.sub_mul, Nat.add_mul]
      omega
    · intro W3 hg3 hgr3
      exact ⟨_, rfl, ⟨hJ.1.grown hgr3 hJ.1.size (fun k hk => by injection hk with hk; omega), hg3⟩, trivial⟩
  case fin =>
    intro vs1 W3 hJ hG
    have e0 : vs1 0 = .slice (some ⟨w.heap.size, 0, none⟩) (n + m) G := hG 0 (by decide) rfl
    have e1 : vs1 1 = .int .i64 (i : Int) := hG 1 (by decide) rfl
    have e2 : vs1 2 = .int .i64 (m : Int) := hG 2 (by decide) rfl
    have e3 : vs1 3 = .int .i64 ((i : Int) + (m : Int)) := hG 3 (by decide) rfl
    have e4 : vs1 4 = .slice (some ⟨w.heap.size, 0 + (i + m) * 4, none⟩) (n + m - (i + m)) (G - (i + m)) := hG 4 (by decide) rfl
    have e5 : vs1 5 = .slice (some ⟨g, 0, none⟩) n cap := hG 5 (by decide) rfl
    have e6 : vs1 6 = .int .i64 (i : Int) := hG 6 (by decide) rfl
    have e7 : vs1 7 = .slice (some ⟨g, 0 + i * 4, none⟩) (n - i) (cap - i) := hG 7 (by decide) rfl
    simp only [putAll, e0, e1, e2, e3, e4, e5, e6, e7]
    clear hG e0 e1 e2 e3 e4 e5 e6 e7
    go_simp
    go_wp2_with fail
    go_ret
    refine ⟨_, rfl, RowQ.of hJ.2 hG1 hG2 ?_ ?_ ?_, ⟨hJ.1.os, hJ.1.tape, hJ.1.output, hJ.1.size, fun k hk _ => hJ.1.block k hk⟩, .inr ⟨_, rfl, Nat.le_refl _⟩⟩
    · show (List.toArray _).size = _
      simp only [List.size_toArray, List.length_append, List.length_take, List.length_drop, Array.length_toList, hC1s, hv.len, Nat.add_mul]
      rw [Nat.add_mul] at hGs
      omega
    · show List.take _ (C1.toList.take _ ++ _ ++ C1.toList.drop _) = _
      have := ins_new (cur := cr.toList) (vs := vs) (us := us) (p := i * 4) (q := n * 4) (r := m * 4) his hv.len hu hG4
      rw [hC1]
      simp only [Nat.add_mul, Nat.zero_add] at this ⊢
      exact this
    · intro u hu
      rcases List.mem_append.1 hu with h | h
      · rcases List.mem_append.1 h with h | h
        · exact hv.2 u (List.mem_of_mem_take h)
        · exact hu1 u h
      · exact hv.2 u (List.mem_of_mem_drop h)
set_option maxRecDepth 100000 in
set_option maxHeartbeats 4000000 in
theorem insertFit_s (w : World) {n i b m g cap : Nat} {vs us : List Value} (hv : RowQ 24 4 w (.slice (some ⟨g, 0, none⟩) n cap) n vs) (hi : i < n) (hn : n + m ≤ 1000000) (hm : 0 < m) (hb : w.heap[b]? = some (.cells us.toArray 24 (0, 0))) (hu : us.length = m * 4) (hu1 : ∀ u ∈ us, u.oneCell' = true) (hbg : b ≠ g) (hroom : n + m ≤ cap) :
    Calls Try.prog 42 #[.slice (some ⟨g, 0, none⟩) n cap, .int .i64 i, .slice (some ⟨b, 0, none⟩) m m] w (RetRow 24 4 w (.slice (some ⟨g, 0, none⟩) n cap) (n + m) (vs.take (i * 4) ++ us ++ vs.drop (i * 4))) := by
  have hz1 : ((m : Int) == 0) = false := beq_eq_false_iff_ne.2 (by omega)
  have hz2 : ((i : Int) == (n : Int)) = false := beq_eq_false_iff_ne.2 (by omega)
  have hz3 : decide ((cap : Int) < (n : Int) + (m : Int)) = false := decide_eq_false (by omega)
  have hcs := new_cells hb
  have hblt := (Array.getElem?_eq_some_iff.1 hb).1
  have hglt := hv.lt (k := g) rfl
  obtain ⟨cur, hg, hcm, hcs1, hct⟩ : ∃ cur, w.heap[g]? = some (.cells cur 24 (0, 0)) ∧ cap ≤ maxLen ∧ cur.size = cap * 4 ∧ cur.toList.take (n * 4) = vs := by
    rcases hv.cases with ⟨h, _⟩ | ⟨g', cap', cur, h, h1, h2, h3, h4, h5⟩
    · cases h
    · cases h
      exact ⟨cur, h1, h3, h4, h5⟩
  have his : i * 4 ≤ n * 4 := Nat.mul_le_mul_right _ (Nat.le_of_lt hi)
  have hns : (n + m) * 4 ≤ cap * 4 := Nat.mul_le_mul_right _ hroom
  have hdl : (vs.drop (i * 4)).length = (n - i) * 4 := by rw [List.length_drop, hv.len, Nat.sub_mul]
  have hov : ∀ off k kc, (callFunc 44 #[.slice (some ⟨b, 0, none⟩) m m, .slice (some ⟨g, off, none⟩) k kc]).run Try.prog w = .ok (.value (.bool false)) w := fun off k kc =>
    overlaps_apart (Tb := 4) spP.toLsP Try.func44 (by kernel_rfl) rfl (by kernel_rfl) (by kernel_rfl) hb hg hbg (by rw [hcs1]; have : 0 < cap * 4 := Nat.mul_pos (by omega) (by omega); omega)
  go_enter Try.func42, Try.ntmps42
  go_upto_region 15 with (go_big_may; first
    | (refine wpList_sliceAny spP.toLsP rfl rfl rfl (l := i) (r := n) (run_bounds_l _ (by omega)) ?_; intro _)
    | (refine wpList_sliceTo spP.toLsP rfl rfl rfl (r := n + m) (run_bounds_h _ (by omega)) ?_)
    | (refine wpList_sliceFrom spP.toLsP rfl rfl rfl (l := i + m) (r := n + m) (run_bounds_l' _ (by omega) (by omega)) (by omega) ?_)
    | fail)
  have hg0 := hg
  refine wp_region_lnl (K := fun _ _ => True) (by kernel_rfl) (by kernel_rfl) [8] (by kernel_rfl) [lEq (.slice (some ⟨g, 0, none⟩) (n + m) cap), lEq (.int .i64 (i : Int)), lEq (.int .i64 (m : Int)), lEq (.int .i64 ((i : Int) + (m : Int))), lEq (.slice (some ⟨g, 0 + (i + m) * 4, none⟩) (n + m - (i + m)) (cap - (i + m))), lEq (.slice (some ⟨g, 0, none⟩) (n + m) cap), lEq (.int .i64 (i : Int)), lEq (.slice (some ⟨g, 0 + i * 4, none⟩) (n + m - i) (cap - i)), lAny] (fun l W => Trd (· = g) w W ∧ W.heap[g]? = some (.cells (match l with | [] => cur | _ :: _ => (cur.toList.take (0 + (i + m) * 4) ++ vs.drop (i * 4) ++ cur.toList.drop (0 + (i + m) * 4 + (vs.drop (i * 4)).length)).toArray) 24 (0, 0))) (fun l A B h hb => ⟨h.1.trans (Trd.of (F := (· = g)) hb) (fun _ _ h => h), (hb.block _ (Array.getElem?_eq_some_iff.1 h.2).1).trans h.2⟩) ⟨Trd.refl _ _, hg⟩
    ⟨?o0, ?o1, ?o2, ?o3, ?o4, ?o5, ?o6, ?o7, ?o8, trivial⟩ ?fin
  case o0 =>
    refine LnOp.side rfl (by kernel_rfl) (fun A va w' k hF hT hk hJ hb hu hp hd => ?_)
    have e1 : A.eval (.tmp 0) = .slice (some ⟨g, 0, none⟩) (n + m) cap := hF 0 rfl
    exact BigFrame.wp_move _ rfl ⟨_, rfl, e1, Below.refl _ _⟩
  case o1 =>
    refine LnOp.side rfl (by kernel_rfl) (fun A va w' k hF hT hk hJ hb hu hp hd => ?_)
    have e1 : A.eval (.tmp 1) = .int .i64 (i : Int) := hF 1 rfl
    exact BigFrame.wp_move _ rfl ⟨_, rfl, e1, Below.refl _ _⟩
  case o2 =>
    refine LnOp.side rfl (by kernel_rfl) (fun A va w' k hF hT hk hJ hb hu hp hd => ?_)
    have e1 : A.eval (.tmp 7) = .int .i64 (m : Int) := hF 7 rfl
    exact BigFrame.wp_move _ rfl ⟨_, rfl, e1, Below.refl _ _⟩
  case o3 =>
    refine LnOp.side rfl (by kernel_rfl) (fun A va w' k hF hT hk hJ hb hu hp hd => ?_)
    have e1 : A.eval (.tmp 70) = .int .i64 (i : Int) := (hT 70 1 (by simp) rfl).trans (hd ⟨1, .data⟩ (by simp) rfl rfl)
    have e2 : A.eval (.tmp 71) = .int .i64 (m : Int) := (hT 71 2 (by simp) rfl).trans (hd ⟨2, .data⟩ (by simp) rfl rfl)
    exact wp_addI rfl (e1) (e2) (by omega) (by omega) ⟨_, rfl, rfl, Below.refl _ _⟩
  case o4 =>
    refine LnOp.side rfl (by kernel_rfl) (fun A va w' k hF hT hk hJ hb hu hp hd => ?_)
    have e1 : A.eval (.tmp 69) = .slice (some ⟨g, 0, none⟩) (n + m) cap := (hT 69 0 (by simp) rfl).trans (hd ⟨0, .data⟩ (by simp) rfl rfl)
    have e2 : A.eval (.tmp 72) = .int .i64 ((i : Int) + (m : Int)) := (hT 72 3 (by simp) rfl).trans (hd ⟨3, .data⟩ (by simp) rfl rfl)
    exact wp_sliceFrom spP.toLsP rfl (e1) (congrArg some e2) rfl (run_bounds_l' _ (by omega) (by omega)) (by omega) ⟨_, rfl, rfl, Below.refl _ _⟩
  case o5 =>
    refine LnOp.side rfl (by kernel_rfl) (fun A va w' k hF hT hk hJ hb hu hp hd => ?_)
    have e1 : A.eval (.tmp 0) = .slice (some ⟨g, 0, none⟩) (n + m) cap := hF 0 rfl
    exact BigFrame.wp_move _ rfl ⟨_, rfl, e1, Below.refl _ _⟩
  case o6 =>
    refine LnOp.side rfl (by kernel_rfl) (fun A va w' k hF hT hk hJ hb hu hp hd => ?_)
    have e1 : A.eval (.tmp 1) = .int .i64 (i : Int) := hF 1 rfl
    exact BigFrame.wp_move _ rfl ⟨_, rfl, e1, Below.refl _ _⟩
  case o7 =>
    refine LnOp.side rfl (by kernel_rfl) (fun A va w' k hF hT hk hJ hb hu hp hd => ?_)
    have e1 : A.eval (.tmp 74) = .slice (some ⟨g, 0, none⟩) (n + m) cap := (hT 74 5 (by simp) rfl).trans (hd ⟨5, .data⟩ (by simp) rfl rfl)
    have e2 : A.eval (.tmp 75) = .int .i64 (i : Int) := (hT 75 6 (by simp) rfl).trans (hd ⟨6, .data⟩ (by simp) rfl rfl)
    exact wp_sliceFrom spP.toLsP rfl (e1) (congrArg some e2) rfl (run_bounds_l' _ (by omega) (by omega)) (by omega) ⟨_, rfl, rfl, Below.refl _ _⟩
  case o8 =>
    refine LnOp.line 0 rfl rfl (fun A va w' hF hT hJ hu hd => ?_)
    have e1 : A.eval (.tmp 73) = .slice (some ⟨g, 0 + (i + m) * 4, none⟩) (n + m - (i + m)) (cap - (i + m)) := (hT 73 4 (by simp) rfl).trans (hd ⟨4, .data⟩ (by simp) rfl rfl)
    have e2 : A.eval (.tmp 76) = .slice (some ⟨g, 0 + i * 4, none⟩) (n + m - i) (cap - i) := (hT 76 7 (by simp) rfl).trans (hd ⟨7, .data⟩ (by simp) rfl rfl)
    refine wp_copyRaw spP.toLsP rfl e1 e2 hJ.2 (cs := vs.drop (i * 4)) (by rw [hdl, Nat.min_eq_right (by omega)]; congr 1; omega) (fun j u hj => ?_) (fun u hu => hv.2 u (List.mem_of_mem_drop hu)) ?_ ?_
    · rw [List.getElem?_drop, ← hct, List.getElem?_take] at hj
      split at hj
      · rw [Addr.add_lit, Nat.zero_add]
        have h5 : w'.heap[g]? = some (.cells cur 24 (0, 0)) := hJ.2
        simpa [World.cell?, h5, ← Array.getElem?_toList] using hj
      · cases hj
    · show 0 + (i + m) * 4 + (vs.drop (i * 4)).length ≤ cur.size
      rw [hcs1, hdl, Nat.zero_add, ← Nat.add_mul]
      exact Nat.mul_le_mul_right _ (by omega)
    · intro W3 hg3 hgr3
      exact ⟨_, rfl, ⟨hJ.1.trans (Trd.ofGrown (F := (· = g)) hgr3 fun k hk => by injection hk with hk; exact hk.symm) (fun _ _ h => h), hg3⟩, trivial⟩
  case fin =>
    intro vs1 W3 hJ hG
    have e0 : vs1 0 = .slice (some ⟨g, 0, none⟩) (n + m) cap := hG 0 (by decide) rfl
    have e1 : vs1 1 = .int .i64 (i : Int) := hG 1 (by decide) rfl
    have e2 : vs1 2 = .int .i64 (m : Int) := hG 2 (by decide) rfl
    have e3 : vs1 3 = .int .i64 ((i : Int) + (m : Int)) := hG 3 (by decide) rfl
    have e4 : vs1 4 = .slice (some ⟨g, 0 + (i + m) * 4, none⟩) (n + m - (i + m)) (cap - (i + m)) := hG 4 (by decide) rfl
    have e5 : vs1 5 = .slice (some ⟨g, 0, none⟩) (n + m) cap := hG 5 (by decide) rfl
    have e6 : vs1 6 = .int .i64 (i : Int) := hG 6 (by decide) rfl
    have e7 : vs1 7 = .slice (some ⟨g, 0 + i * 4, none⟩) (n + m - i) (cap - i) := hG 7 (by decide) rfl
    simp only [putAll, e0, e1, e2, e3, e4, e5, e6, e7]
    clear hG e0 e1 e2 e3 e4 e5 e6 e7
    obtain ⟨C1, hC1⟩ : ∃ C1 : Array Value, C1 = (cur.toList.take (0 + (i + m) * 4) ++ vs.drop (i * 4) ++ cur.toList.drop (0 + (i + m) * 4 + (vs.drop (i * 4)).length)).toArray := ⟨_, rfl⟩
    have hg3 : W3.heap[g]? = some (.cells C1 24 (0, 0)) := by rw [hC1]; exact hJ.2
    have hC1s : C1.size = cap * 4 := by
      rw [hC1]
      simp only [List.size_toArray, List.length_append, List.length_take, List.length_drop, Array.length_toList, hcs1, hv.len, Nat.add_mul]
      rw [Nat.add_mul] at hns
      omega
    have hcs3 : ∀ (j : Nat) (u : Value), us[j]? = some u → W3.cell? (Addr.add ⟨b, 0, none⟩ j) = some u := fun j u hj => by
      have := hcs j u hj
      rw [Addr.add_lit] at this ⊢
      exact (cell_keep (hJ.1.block b hblt hbg) _).trans this
    go_simp
    go_wp2_with (go_big_may; first
      | (refine wpList_sliceFrom spP.toLsP rfl rfl rfl (l := i) (r := n + m) (run_bounds_l _ (by omega)) (by omega) ?_)
      | (refine wpList_copyRaw spP.toLsP rfl rfl rfl rfl hg3 (cs := us) (by rw [Nat.min_eq_left (by omega)]; exact hu) hcs3 hu1 (by rw [hC1s, hu]; omega) ?_; intro W4 hg4 hgr4)
      | fail)
    go_ret
    have q4 : Trd (· = g) w W4 := hJ.1.trans (Trd.ofGrown (F := (· = g)) hgr4 fun k hk => by injection hk with hk; exact hk.symm) (fun _ _ h => h)
    refine ⟨_, rfl, RowQ.of hg4 hroom hcm ?_ ?_ ?_, ⟨q4.os, q4.tape, q4.output, q4.size, fun k hk hn => q4.block k hk fun h => hn (by rw [h]; rfl)⟩, .inl rfl⟩
    · simp only [List.size_toArray, List.length_append, List.length_take, List.length_drop, Array.length_toList, hC1s, hu]
      rw [Nat.add_mul] at hns
      omega
    · have := ins_cells (cur := cur.toList) (us := us) (p := i * 4) (q := n * 4) (r := m * 4) his hu (by rw [Array.length_toList, hcs1, ← Nat.add_mul]; exact hns)
      rw [hct] at this
      rw [hC1]
      simp only [Nat.zero_add, Nat.add_mul] at this ⊢
      exact this
    · intro u hu
      rcases List.mem_append.1 hu with h | h
      · rcases List.mem_append.1 h with h | h
        · exact hv.2 u (List.mem_of_mem_take h)
        · exact hu1 u h
      · exact hv.2 u (List.mem_of_mem_drop h)
theorem insert_s (w : World) {v : Value} {n i b m : Nat} {vs us : List Value} (hv : RowQ 24 4 w v n vs) (hi : i ≤ n) (hn : n + m ≤ 1000000) (hm : 0 < m) (hb : w.heap[b]? = some (.cells us.toArray 24 (0, 0))) (hu : us.length = m * 4) (hu1 : ∀ u ∈ us, u.oneCell' = true) (hbg : v.ownBlock ≠ some b) :
    Calls Try.prog 42 #[v, .int .i64 i, .slice (some ⟨b, 0, none⟩) m m] w (RetRow 24 4 w v (n + m) (vs.take (i * 4) ++ us ++ vs.drop (i * 4))) := by
  rcases Nat.lt_or_ge i n with h | h
  · rcases hv.cases with ⟨_, h2, _⟩ | ⟨g, cap, cur, rfl, _, h3, _⟩
    · omega
    · rcases Nat.lt_or_ge cap (n + m) with h4 | h4
      · exact insertGrow_s w hv h hn hm hb hu hu1 h3 h4
      · exact insertFit_s w hv h hn hm hb hu hu1 (fun e => hbg (by rw [e]; rfl)) h4
  · obtain rfl : i = n := by omega
    exact insertEnd_s w hv hn hm hb hu hu1
end Go.Proofs.Ytcopdnigfnmnkaa
namespace Go.Proofs.Ytcopdnigfnmnkaa
open Go.RowKit Go.Shelf
set_option maxRecDepth 100000 in
set_option maxHeartbeats 4000000 in
theorem sPoint_any (w : World) {S : Nat → Prop} {A : Option Addr} {n C : Nat} {k : List UInt8} {t : Int} (hk : RdS S w (.slice A n C) k) (ht : W64 t) (h1 : k.length ≤ 1000000) :
    Calls Try.prog 11 #[.int .i64 t, .slice A n C] w (SpEnd w (pointS t k)) := by
  obtain ⟨W, hW, q, Bz, hsz⟩ := spBox w 24 [.int .i64 0, .slice none 0 0, .slice none 0 0, .bool false]
  go_enter Try.func11, Try.ntmps11
  go_upto_region 1 with (fail)
  rw [show w.alloc (.cells #[.int .i64 0, .slice none 0 0, .slice none 0 0, .bool false] 24) = W from hW.symm]
  clear hW
  go_wp2_with fail
  refine (clone_any W (hk.below q).rd (Nat.le_refl _) h1).mono ?_
  rintro e w1 ⟨ad1, k1, c1, rfl, hf1⟩
  obtain rfl : k1 = k.length := hf1.len
  go_wp2_with fail
  refine (clone_any w1 (hk.below (q.trans (hf1.1.mono q.size))).rd (Nat.le_refl _) h1).mono ?_
  rintro e w2 ⟨ad2, k2, c2, rfl, hf2⟩
  obtain rfl : k2 = k.length := hf2.len
  go_wp2_with (refine wpList_append1 byP rfl (fun _ => rfl) rfl rfl (by first | (simp; done) | (simp [Act.put]; done)) rfl 0 (fun _ => rfl) rfl hf2.2 hf2.1.size ?_ (by omega)
               intro u ad3 k3 c3 w3 hO3 hb3
               obtain ⟨hi, ehi⟩ : ∃ hi, hi = k ++ [0] := ⟨_, rfl⟩
               rw [← ehi] at hO3
               obtain rfl : k3 = hi.length := hO3.len
               replace ehi := Lib.hid ehi
               have b03 : Below W.heap.size W w3 := (hf1.1.trans (hf2.1.mono hf1.1.size)).trans (hb3.mono hf1.1.size)
               have rl : RdS (fun g => W.heap.size ≤ g ∧ g < w3.heap.size) w3 (.slice ad1 k.length c1) k := ((hf1.2.rdS.below hf2.1).keep fun g hg => hb3.block g hg.2).weak fun g hg => ⟨hg.1, Nat.lt_of_lt_of_le hg.2 (hf2.1.trans hb3).size⟩
               have rh : RdS (fun g => W.heap.size ≤ g ∧ g < w3.heap.size) w3 (.slice ad3 hi.length c3) hi := hO3.rdS.weak fun g hg => ⟨Nat.le_trans hf1.1.size hg.1, hg.2⟩
               go_wp2_with (first | (refine wpList_boxStore (us := [.int .i64 t, .slice ad1 k.length c1, .slice ad3 hi.length c3, .bool false]) (by kernel_rfl) rfl rfl rfl rfl rfl rfl (Bz.below b03 Bz.lt) rfl ?_; intro w4 hg hB) | fail))
  have d0 := hB.cell (i := 0) rfl
  have d1 := hB.cell (i := 1) rfl
  have d2 := hB.cell (i := 2) rfl
  have d3 := hB.cell (i := 3) rfl
  obtain ⟨fs, hu, _⟩ := spS.hu
  refine bodyPost_ret (v := .agg #[.int .i64 t, .slice ad1 k.length c1, .slice ad3 hi.length c3, .bool false]) (by simp [results, Try.results11, go_sem, loadVar, isAgg, run_underlying hu, run_sizeOf' spS.hs, loadCellsFrom, Addr.add, d0, d1, d2, d3]) rfl ?_
  have hk0 : ∀ g, W.heap.size ≤ g ∧ g < w3.heap.size → w4.heap[g]? = w3.heap[g]? := fun g hg2 => hg.block g hg2.2 fun e => by injection e with e; omega
  unfold SpEnd
  rw [show pointS t k = ⟨t, k, hi, false⟩ by unfold pointS; rw [ehi.out]]
  exact ⟨_, rfl, ⟨ad1, c1, ad3, c3, rfl, (rl.keep hk0).weak fun g hg2 => ⟨by omega, Nat.lt_of_lt_of_le hg2.2 hg.size⟩, (rh.keep hk0).weak fun g hg2 => ⟨by omega, Nat.lt_of_lt_of_le hg2.2 hg.size⟩, ht⟩, (q.trans (b03.mono q.size)).grown hg (q.trans (b03.mono q.size)).size fun g e => by injection e with e; omega⟩
set_option maxRecDepth 100000 in
set_option maxHeartbeats 4000000 in
theorem sAll_any (w : World) {t : Int} (ht : W64 t) :
    Calls Try.prog 13 #[.int .i64 t] w (SpEnd w (allS t)) := by
  obtain ⟨W, hW, q, Bz, hsz⟩ := spBox w 24 [.int .i64 0, .slice none 0 0, .slice none 0 0, .bool false]
  go_enter Try.func13, Try.ntmps13
  go_upto_region 1 with (fail)
  rw [show w.alloc (.cells #[.int .i64 0, .slice none 0 0, .slice none 0 0, .bool false] 24) = W from hW.symm]
  clear hW
  go_wp2_with (first | (refine wpList_boxStore (us := [.int .i64 t, .slice none 0 0, .slice none 0 0, .bool true]) (by kernel_rfl) rfl rfl rfl rfl rfl rfl Bz rfl ?_; intro w4 hg hB) | fail)
  have d0 := hB.cell (i := 0) rfl
  have d1 := hB.cell (i := 1) rfl
  have d2 := hB.cell (i := 2) rfl
  have d3 := hB.cell (i := 3) rfl
  obtain ⟨fs, hu, _⟩ := spS.hu
  refine bodyPost_ret (v := .agg #[.int .i64 t, .slice none 0 0, .slice none 0 0, .bool true]) (by simp [results, Try.results13, go_sem, loadVar, isAgg, run_underlying hu, run_sizeOf' spS.hs, loadCellsFrom, Addr.add, d0, d1, d2, d3]) rfl ?_
  exact ⟨_, rfl, ⟨none, 0, none, 0, rfl, RdS.nil _ _, RdS.nil _ _, ht⟩, q.grown hg q.size fun g e => by injection e with e; omega⟩
set_option maxRecDepth 100000 in
set_option maxHeartbeats 4000000 in
theorem rPoint_any (w : World) {S : Nat → Prop} {A : Option Addr} {n C : Nat} {k : List UInt8} {t : Int} (hk : RdS S w (.slice A n C) k) (ht : W64 t) (h1 : k.length ≤ 1000000) :
    Calls Try.prog 12 #[.int .i64 t, .slice A n C] w (SpEnd w (pointS t k)) := by
  obtain ⟨W, hW, q, Bz, hsz⟩ := spBox w 24 [.int .i64 0, .slice none 0 0, .slice none 0 0, .bool false]
  go_enter Try.func12, Try.ntmps12
  go_upto_region 1 with (fail)
  rw [show w.alloc (.cells #[.int .i64 0, .slice none 0 0, .slice none 0 0, .bool false] 24) = W from hW.symm]
  clear hW
  have hkq := (hk.below q).rd
  go_wp2_with (refine wpList_build byP rfl rfl [] (by kernel_rfl) rfl (by simp) ?_
               intro g1 k1 w1 hF1
               go_wp2_with (at_builtin
                            refine wpList_append byP rfl rfl rfl hF1.2 rfl (hkq.below hF1.1) hF1.1.size ?_ (by simp; omega)
                            intro ad1 kl1 c1 w2 hO1 _ hb1
                            rw [List.nil_append] at hO1
                            obtain rfl : kl1 = k.length := hO1.len
                            have b02 := hF1.1.trans hb1
                            go_wp2_with (refine wpList_build byP rfl rfl [] (by kernel_rfl) rfl (by simp) ?_
                                         intro g2 k2 w21 hF2
                                         have b21 := b02.trans (hF2.1.mono b02.size)
                                         go_wp2_with (at_builtin
                                                      refine wpList_append byP rfl rfl rfl hF2.2 rfl (hkq.below b21) hF2.1.size ?_ (by simp; omega)
                                                      intro ad2 kl2 c2 w22 hO2 _ hb2
                                                      rw [List.nil_append] at hO2
                                                      obtain rfl : kl2 = k.length := hO2.len
                                                      have b22 := hF2.1.trans hb2
                                                      go_wp2_with (refine wpList_append1 byP rfl (fun _ => rfl) rfl rfl (by first | (simp; done) | (simp [Act.put]; done)) rfl 0 (fun _ => rfl) rfl hO2 b22.size ?_ (by omega)
                                                                   intro u ad3 k3 c3 w3 hO3 hb3
                                                                   obtain ⟨hi, ehi⟩ : ∃ hi, hi = k ++ [0] := ⟨_, rfl⟩
                                                                   rw [← ehi] at hO3
                                                                   obtain rfl : k3 = hi.length := hO3.len
                                                                   replace ehi := Lib.hid ehi
                                                                   have b23 := b22.trans hb3
                                                                   have b03 : Below W.heap.size W w3 := b02.trans (b23.mono b02.size)
                                                                   have rl : RdS (fun g => W.heap.size ≤ g ∧ g < w3.heap.size) w3 (.slice ad1 k.length c1) k := (hO1.rdS.keep fun g hg => b23.block g hg.2).weak fun g hg => ⟨hg.1, Nat.lt_of_lt_of_le hg.2 b23.size⟩
                                                                   have rh : RdS (fun g => W.heap.size ≤ g ∧ g < w3.heap.size) w3 (.slice ad3 hi.length c3) hi := hO3.rdS.weak fun g hg => ⟨Nat.le_trans b02.size hg.1, hg.2⟩
                                                                   go_wp2_with (first | (refine wpList_boxStore (us := [.int .i64 t, .slice ad1 k.length c1, .slice ad3 hi.length c3, .bool false]) (by kernel_rfl) rfl rfl rfl rfl rfl rfl (Bz.below b03 Bz.lt) rfl ?_; intro w4 hg hB) | fail))))))
  have d0 := hB.cell (i := 0) rfl
  have d1 := hB.cell (i := 1) rfl
  have d2 := hB.cell (i := 2) rfl
  have d3 := hB.cell (i := 3) rfl
  obtain ⟨fs, hu, _⟩ := spS.hu
  refine bodyPost_ret (v := .agg #[.int .i64 t, .slice ad1 k.length c1, .slice ad3 hi.length c3, .bool false]) (by simp [results, Try.results12, go_sem, loadVar, isAgg, run_underlying hu, run_sizeOf' spS.hs, loadCellsFrom, Addr.add, d0, d1, d2, d3]) rfl ?_
  have hk0 : ∀ g, W.heap.size ≤ g ∧ g < w3.heap.size → w4.heap[g]? = w3.heap[g]? := fun g hg2 => hg.block g hg2.2 fun e => by injection e with e; omega
  unfold SpEnd
  rw [show pointS t k = ⟨t, k, hi, false⟩ by unfold pointS; rw [ehi.out]]
  exact ⟨_, rfl, ⟨ad1, c1, ad3, c3, rfl, (rl.keep hk0).weak fun g hg2 => ⟨by omega, Nat.lt_of_lt_of_le hg2.2 hg.size⟩, (rh.keep hk0).weak fun g hg2 => ⟨by omega, Nat.lt_of_lt_of_le hg2.2 hg.size⟩, ht⟩, (q.trans (b03.mono q.size)).grown hg (q.trans (b03.mono q.size)).size fun g e => by injection e with e; omega⟩
end Go.Proofs.Ytcopdnigfnmnkaa
namespace Go.Proofs.Ytcopdnigfnmnkaa
open Go.RowKit Go.Shelf
set_option maxRecDepth 100000 in
set_option maxHeartbeats 4000000 in
theorem sWrong_any (w : World) {S : Nat → Prop} {v : Value} {x : Sp} (hx : RdSp S w v x) :
    Calls Try.prog 31 #[v] w fun e w' => e = .returned (.bool (!decide (mayS x))) ∧ Below w.heap.size w w' := by
  have hy := hx
  obtain ⟨a1, a2, a3, a4, rfl, hlx, hhx, htx⟩ := hx
  obtain ⟨W, hW, q, Bx, hsz⟩ := spBox w 24 [.int .i64 x.table, .slice a1 x.lo.length a2, .slice a3 x.hi.length a4, .bool x.isOpen]
  clear hsz
  go_enter Try.func31, Try.ntmps31
  go_upto_region 1 with (fail)
  rw [show w.alloc (.cells #[.int .i64 x.table, .slice a1 x.lo.length a2, .slice a3 x.hi.length a4, .bool x.isOpen] 24) = W from hW.symm]
  clear hW
  have c0 := Bx.cell (i := 0) rfl
  have c1 := Bx.cell (i := 1) rfl
  have c2 := Bx.cell (i := 2) rfl
  have c3 := Bx.cell (i := 3) rfl
  go_wp2_with fail
  refine (sCheck_any W (hy.below q)).mono ?_
  rintro e w1 ⟨rfl, hb⟩
  clear c0 c1 c2 c3
  go_wp2_with fail
  go_ret
  exact ⟨rfl, q.trans (hb.mono q.size)⟩
theorem sOf_any (w : World) {S : Nat → Prop} {v : Value} {x : Sp} {tb : Nat} {t : Int} (hx : RdSp S w v x) (ht : BoxN w tb 3 [.int .i64 t]) :
    Calls Try.prog 41 #[v, .pointer (some ⟨tb, 0, none⟩)] w fun e w' => e = .returned (.bool (decide (x.table = t))) ∧ Below w.heap.size w w' := by
  obtain ⟨a1, a2, a3, a4, rfl, hlx, hhx, htx⟩ := hx
  obtain ⟨W, hW, q, Bx, hsz⟩ := spBox w 24 [.int .i64 x.table, .slice a1 x.lo.length a2, .slice a3 x.hi.length a4, .bool x.isOpen]
  clear hsz
  go_enter Try.func41, Try.ntmps41
  go_upto_region 1 with (fail)
  rw [show w.alloc (.cells #[.int .i64 x.table, .slice a1 x.lo.length a2, .slice a3 x.hi.length a4, .bool x.isOpen] 24) = W from hW.symm]
  clear hW
  have c0 := Bx.cell (i := 0) rfl
  have d0 := (ht.below q ht.lt).cell (i := 0) rfl
  by_cases h : x.table = t
  · have da : (x.table == t) = true := beq_iff_eq.2 h
    have db : decide (x.table = t) = true := decide_eq_true h
    have H := Lib.hid db
    clear h
    go_wp2_with fail
    go_ret
    exact ⟨by first | (rw [H.out]; done) | (rw [H.out]; rfl), q⟩
  · have da : (x.table == t) = false := beq_eq_false_iff_ne.2 h
    have db : decide (x.table = t) = false := decide_eq_false h
    have H := Lib.hid db
    clear h
    go_wp2_with fail
    go_ret
    exact ⟨by first | (rw [H.out]; done) | (rw [H.out]; rfl), q⟩
def FndS (p : Sp → Bool) (l : List Sp) (v : Int) : Prop := (v = -1 ∧ ∀ y ∈ l, p y = false) ∨ ∃ (j : Nat) (h : j < l.length), v = (j : Int) ∧ p l[j] = true ∧ ∀ y ∈ l.take j, p y = false
set_option maxRecDepth 100000 in
set_option maxHeartbeats 4000000 in
theorem indexWrong_any (w : World) {S : Nat → Prop} {a : Option Addr} {n c : Nat} {l : List Sp} (hl : RdL Elt.sp S w (.slice a n c) l) :
    Calls Try.prog 40 #[.slice a n c, .func (.func 31) #[] #[]] w fun e w' => ∃ i : Int, e = .returned (.int .i64 i) ∧ FndS (fun x => !decide (mayS x)) l i ∧ Below w.heap.size w w' := by
  obtain ⟨rfl, hnc, hcm⟩ := hl.len
  have hlm : l.length ≤ 9223372036854775807 := by unfold maxLen at hcm; omega
  have hEE := enters_of Try.func31 (by kernel_rfl) rfl
  have q := Below.refl w.heap.size w
  go_enter Try.func40, Try.ntmps40
  go_upto_region 2 with (fail)
  go_loopw [5, 8] (fun _ iv wr => ∃ (k : Nat), iv = .int .i64 k ∧ k ≤ l.length ∧ (∀ x ∈ l.take k, (!decide (mayS x)) = false) ∧ Below w.heap.size w wr)
    (fun _ i _ => l.length - (intOf i).toNat)
  case atStart => exact ⟨0, rfl, Nat.zero_le _, by simp, q⟩
  case round =>
    clear q
    obtain ⟨k, rfl, hkl, hall, q⟩ := hrel
    replace hall := Lib.hid hall
    rcases Nat.lt_or_ge k l.length with hlt | hge
    · obtain ⟨b, off, A, C, A2, C2, rfl, hb, c0, c1, c2, c3, hk1, hk2, hw64⟩ := (hl.below q).sp k hlt
      have hw : RdSp S wr (.agg #[.int .i64 l[k].table, .slice A l[k].lo.length C, .slice A2 l[k].hi.length C2, .bool l[k].isOpen]) l[k] := ⟨A, C, A2, C2, rfl, hk1, hk2, hw64⟩
      go_upto_region 4 with (fail)
      go_wp2_with fail
      refine (sWrong_any wr hw).mono ?_
      rintro e w1 ⟨rfl, hb1⟩
      replace q := q.trans (hb1.mono q.size)
      skip
      clear c0 c1 c2 c3 hk1 hk2 hw
      cases hm : (fun x : Sp => !decide (mayS x)) l[k] with
      | false =>
        have hall2 := Lib.hid (show ∀ x ∈ l.take (k + 1), (!decide (mayS x)) = false from fun x hx => by
          rw [List.take_succ_eq_append_getElem hlt] at hx
          rcases List.mem_append.1 hx with h | h
          · exact hall.out x h
          · simp at h; rw [h]; exact hm)
        have hm2 : (!decide (mayS l[k])) = false := hm
        rw [hm2]
        clear hall hm hm2
        go_wp2_with fail
        go_roundw
        case rel => exact ⟨k + 1, by go_num, by omega, hall2.out, q⟩
        case measure => simp [intOf]; omega
      | true =>
        have hm2 : (!decide (mayS l[k])) = true := hm
        rw [hm2]
        clear hm2
        replace hm := Lib.hid hm
        go_wp2_with fail
        go_ret
        exact ⟨_, rfl, .inr ⟨k, hlt, rfl, hm.out, hall.out⟩, q⟩
    · obtain rfl : k = l.length := by omega
      have hno := Lib.hid (show ∀ x ∈ l, (!decide (mayS x)) = false from fun x hx => hall.out x (by rw [List.take_length]; exact hx))
      clear hall
      go_wp2_with fail
      go_ret
      exact ⟨_, rfl, .inl ⟨rfl, hno.out⟩, q⟩
set_option maxRecDepth 100000 in
set_option maxHeartbeats 4000000 in
theorem indexOf_any (w : World) {S : Nat → Prop} {a : Option Addr} {n c : Nat} {l : List Sp} {tb : Nat} {t : Int} (hB0 : BoxN w tb 3 [.int .i64 t]) (hl : RdL Elt.sp S w (.slice a n c) l) :
    Calls Try.prog 40 #[.slice a n c, .func (.func 41) #[] #[.pointer (some ⟨tb, 0, none⟩)]] w fun e w' => ∃ i : Int, e = .returned (.int .i64 i) ∧ FndS (fun x => decide (x.table = t)) l i ∧ Below w.heap.size w w' := by
  obtain ⟨rfl, hnc, hcm⟩ := hl.len
  have hlm : l.length ≤ 9223372036854775807 := by unfold maxLen at hcm; omega
  have hEE := enters_of Try.func41 (by kernel_rfl) rfl
  have q := Below.refl w.heap.size w
  go_enter Try.func40, Try.ntmps40
  go_upto_region 2 with (fail)
  go_loopw [5, 8] (fun _ iv wr => ∃ (k : Nat), iv = .int .i64 k ∧ k ≤ l.length ∧ (∀ x ∈ l.take k, (decide (x.table = t)) = false) ∧ BoxN wr tb 3 [.int .i64 t] ∧ Below w.heap.size w wr)
    (fun _ i _ => l.length - (intOf i).toNat)
  case atStart => exact ⟨0, rfl, Nat.zero_le _, by simp, hB0, q⟩
  case round =>
    clear q
    obtain ⟨k, rfl, hkl, hall, hB, q⟩ := hrel
    replace hall := Lib.hid hall
    rcases Nat.lt_or_ge k l.length with hlt | hge
    · obtain ⟨b, off, A, C, A2, C2, rfl, hb, c0, c1, c2, c3, hk1, hk2, hw64⟩ := (hl.below q).sp k hlt
      have hw : RdSp S wr (.agg #[.int .i64 l[k].table, .slice A l[k].lo.length C, .slice A2 l[k].hi.length C2, .bool l[k].isOpen]) l[k] := ⟨A, C, A2, C2, rfl, hk1, hk2, hw64⟩
      go_upto_region 4 with (fail)
      go_wp2_with fail
      refine (sOf_any wr hw hB).mono ?_
      rintro e w1 ⟨rfl, hb1⟩
      replace q := q.trans (hb1.mono q.size)
      replace hB := hB.below hb1 hB.lt
      clear c0 c1 c2 c3 hk1 hk2 hw
      cases hm : (fun x : Sp => decide (x.table = t)) l[k] with
      | false =>
        have hall2 := Lib.hid (show ∀ x ∈ l.take (k + 1), (decide (x.table = t)) = false from fun x hx => by
          rw [List.take_succ_eq_append_getElem hlt] at hx
          rcases List.mem_append.1 hx with h | h
          · exact hall.out x h
          · simp at h; rw [h]; exact hm)
        have hm2 : (decide (l[k].table = t)) = false := hm
        rw [hm2]
        clear hall hm hm2
        go_wp2_with fail
        go_roundw
        case rel => exact ⟨k + 1, by go_num, by omega, hall2.out, hB, q⟩
        case measure => simp [intOf]; omega
      | true =>
        have hm2 : (decide (l[k].table = t)) = true := hm
        rw [hm2]
        clear hm2
        replace hm := Lib.hid hm
        go_wp2_with fail
        go_ret
        exact ⟨_, rfl, .inr ⟨k, hlt, rfl, hm.out, hall.out⟩, q⟩
    · obtain rfl : k = l.length := by omega
      have hno := Lib.hid (show ∀ x ∈ l, (decide (x.table = t)) = false from fun x hx => hall.out x (by rw [List.take_length]; exact hx))
      clear hall
      go_wp2_with fail
      go_ret
      exact ⟨_, rfl, .inl ⟨rfl, hno.out⟩, q⟩
set_option maxRecDepth 100000 in
set_option maxHeartbeats 4000000 in
theorem containsWrong_any (w : World) {S : Nat → Prop} {a : Option Addr} {n c : Nat} {l : List Sp} (hl : RdL Elt.sp S w (.slice a n c) l) :
    Calls Try.prog 32 #[.slice a n c, .func (.func 31) #[] #[]] w fun e w' => e = .returned (.bool (!decide (∀ x ∈ l, mayS x))) ∧ Below w.heap.size w w' := by
  go_enter Try.func32, Try.ntmps32
  go_wp2_with fail
  refine (indexWrong_any w hl).mono ?_
  rintro e w1 ⟨i, rfl, hi, hb⟩
  have hd := Lib.hid (show decide (0 ≤ i) = (!decide (∀ x ∈ l, mayS x)) from by
    rcases hi with ⟨h1, h2⟩ | ⟨j, h1, h2, h3, _⟩
    · rw [decide_eq_false (by omega), decide_eq_true fun x hx => by simpa using h2 x hx]; rfl
    · rw [decide_eq_true (by omega), decide_eq_false fun h => by have := h _ (List.getElem_mem h1); simp [this] at h3]; rfl)
  clear hi
  go_wp2_with fail
  go_ret
  exact ⟨by first | (rw [hd.out]; done) | (rw [← hd.out]; rfl), hb⟩
end Go.Proofs.Ytcopdnigfnmnkaa
namespace Go.Proofs.Ytcopdnigfnmnkaa
open Go.RowKit Go.Shelf
theorem sps1 : ∀ i z, Try.prog.info? 24 = some i → i.zero = some z → ∀ u ∈ z.cells.toList, u.oneCell' = true := ones_of (z0 := .agg #[.int .i64 0, .slice none 0 0, .slice none 0 0, .bool false]) (by kernel_rfl) (fun u hu => by
  simp [Value.cells] at hu
  rcases hu with rfl | rfl | rfl <;> rfl)
theorem Flat.dropE {α : Type} {E : Elt α} {S : Nat → Prop} {w : World} : ∀ {xs : List α} {vs : List Value} (_ : Flat E S w xs vs) (k : Nat), Flat E S w (xs.drop k) (vs.drop (k * E.size))
  | [], _, h, k => by cases h; simp [Flat]
  | x :: xs, _, h, 0 => by simpa using h
  | x :: xs, _, ⟨us, ws, rfl, h1, h2⟩, k + 1 => by
    have hl := E.len h1
    rw [show (k + 1) * E.size = us.length + k * E.size by rw [hl, Nat.add_mul]; omega, List.drop_length_add_append]
    exact Flat.dropE h2 k
theorem set4 {α : Type} : ∀ (vs : List α) (f : Nat), f + 3 < vs.length → ∀ a b c d : α, (((vs.set f a).set (f + 1) b).set (f + 2) c).set (f + 3) d = vs.take f ++ ([a, b, c, d] ++ vs.drop (f + 4))
  | x0 :: x1 :: x2 :: x3 :: t, 0, _, a, b, c, d => by simp
  | x :: t, f + 1, h, a, b, c, d => by
    have ih := set4 t f (by simp only [List.length_cons] at h; omega) a b c d
    simp only [List.set_cons_succ, show f + 1 + 1 = (f + 1) + 1 from rfl, show f + 1 + 2 = (f + 2) + 1 from rfl, show f + 1 + 3 = (f + 3) + 1 from rfl, show f + 1 + 4 = (f + 4) + 1 from rfl, List.take_succ_cons, List.drop_succ_cons, List.cons_append, ih]
theorem put4_take {α : Type} {vs us : List α} {f : Nat} (hf : f ≤ vs.length) (hu : us.length = 4) : (vs.take f ++ (us ++ vs.drop (f + 4))).take (f + 4) = vs.take f ++ us := by
  have h : (vs.take f).length = f := by rw [List.length_take]; omega
  rw [show f + 4 = (vs.take f).length + us.length by omega, List.take_length_add_append, List.take_append_of_le_length (by omega), List.take_length]
theorem put4_drop {α : Type} {vs us : List α} {f m : Nat} (hm : f + 4 ≤ m) (hf : f ≤ vs.length) (hu : us.length = 4) : (vs.take f ++ (us ++ vs.drop (f + 4))).drop m = vs.drop m := by
  have h : (vs.take f).length = f := by rw [List.length_take]; omega
  rw [show m = (vs.take f).length + (us.length + (m - (f + 4))) by omega, List.drop_length_add_append, List.drop_length_add_append, List.drop_drop]
  congr 1; omega
section
variable {P : Program} {ops : Array Oper} {rest : List Oper} {o : Oper} {a : Act} {K : Act → World → Prop} {Q : Exit → Act → World → Prop} {w : World} {Te : TypeId} {sz n g : Nat} {V : Value} {vs : List Value}
theorem grownOne (w : World) (p : Addr) (v : Value) : w.grownBy (w.setCell p v) (some p.block) := ⟨rfl, rfl, rfl, by simp [World.setCell], fun k _ hk => heap_setCell_other w p k v (fun e => hk (by rw [e]))⟩
theorem RowQ.frozenS (h : RowQ Te sz w V n vs) (hg : V.ownBlock = Option.some g) (j : Nat) : w.frozen? ⟨g, j, none⟩ = false := by
  obtain ⟨cur, hb⟩ := h.block hg
  simp [World.frozen?, hb]
theorem RowQ.putS (h : RowQ Te sz w V n vs) (hg : V.ownBlock = Option.some g) {j : Nat} {u : Value} (hu : u.oneCell' = true) : RowQ Te sz (w.setCell ⟨g, j, none⟩ u) V n (vs.set j u) := by
  rcases h.cases with ⟨rfl, _, _⟩ | ⟨g', cap, cur, rfl, hb, h1, h2, h3, h4⟩
  · simp [Value.ownBlock] at hg
  · simp [Value.ownBlock] at hg
    subst hg
    refine RowQ.of (cur := cur.setIfInBounds j u) ?_ h1 h2 (by simp [h3]) ?_ fun x hx => ?_
    · simp only [World.setCell, Array.getElem?_modify, hb]
      simp
    · rw [Array.toList_setIfInBounds, List.take_set, h4]
    · rcases List.mem_or_eq_of_mem_set hx with hx | rfl
      · exact h.2 x hx
      · exact hu
theorem wp_putQ4 {t : TypeId} {x y : Operand} {u v r s : Value} {f : Nat} (hs : (P.info? t).map (·.size) = some 4) (ho : o.op = .store t x y) (hx : a.eval x = .pointer (some ⟨g, f, none⟩)) (hy : a.eval y = .agg #[u, v, r, s]) (hu1 : u.oneCell' = true) (hv1 : v.oneCell' = true) (hr1 : r.oneCell' = true) (hs1 : s.oneCell' = true) (hr : RowQ Te sz w V n vs) (hg : V.ownBlock = some g) (hf : f + 3 < vs.length)
    (h : ∀ w', w.grownBy w' (some g) → RowQ Te sz w' V n (vs.take f ++ ([u, v, r, s] ++ vs.drop (f + 4))) → K (a.put o.dst undef) w') : o.wp P a w K Q := by
  have r1 := hr.putS hg (j := f) hu1
  have r2 := r1.putS hg (j := f + 1) hv1
  have r3 := r2.putS hg (j := f + 2) hr1
  have r4 := r3.putS hg (j := f + 3) hs1
  have c0 := hr.cell hg (List.getElem?_eq_getElem (show f < vs.length by omega))
  have c1 := r1.cell hg (List.getElem?_eq_getElem (show f + 1 < (vs.set f u).length by rw [List.length_set]; omega))
  have c2 := r2.cell hg (List.getElem?_eq_getElem (show f + 2 < ((vs.set f u).set (f + 1) v).length by rw [List.length_set, List.length_set]; omega))
  have c3 := r3.cell hg (List.getElem?_eq_getElem (show f + 3 < (((vs.set f u).set (f + 1) v).set (f + 2) r).length by rw [List.length_set, List.length_set, List.length_set]; omega))
  have hgr := grownT (grownT (grownT (grownOne w ⟨g, f, none⟩ u) (grownOne _ ⟨g, f + 1, none⟩ v)) (grownOne _ ⟨g, f + 2, none⟩ r)) (grownOne _ ⟨g, f + 3, none⟩ s)
  rw [set4 vs f hf] at r4
  refine wp_skip ?_ (h _ hgr r4)
  simp only [execOp, ho, hx, hy]
  simp [Instr.storeAt, storeVar, run_sizeOf hs, storeCells, Value.cells, run_store _ _ _ _ _ hu1, run_store _ _ _ _ _ hv1, run_store _ _ _ _ _ hr1, run_store _ _ _ _ _ hs1, c0, c1, c2, c3, hr.frozenS hg f, r1.frozenS hg (f + 1), r2.frozenS hg (f + 2), r3.frozenS hg (f + 3), Addr.add, go_sem]
theorem wpList_putQ4 {t : TypeId} {x y : Operand} {u v r s : Value} {f : Nat} (hs : (P.info? t).map (·.size) = some 4) (ho : o.op = .store t x y) (hd : o.dst = none) (hgd : Region.wanted o (yielded ops a.tmps) = true) (hx : a.eval x = .pointer (some ⟨g, f, none⟩)) (hy : a.eval y = .agg #[u, v, r, s]) (hu1 : u.oneCell' = true) (hv1 : v.oneCell' = true) (hr1 : r.oneCell' = true) (hs1 : s.oneCell' = true) (hr : RowQ Te sz w V n vs) (hg : V.ownBlock = some g) (hf : f + 3 < vs.length)
    (h : ∀ w', w.grownBy w' (some g) → RowQ Te sz w' V n (vs.take f ++ ([u, v, r, s] ++ vs.drop (f + 4))) → wpList P ops Q rest a w') : wpList P ops Q (o :: rest) a w :=
  BigFrame.wpList_want hgd fun _ hK => wp_putQ4 hs ho hx hy hu1 hv1 hr1 hs1 hr hg hf fun w' h1 h2 => hK _ _ (by rw [hd]; exact h w' h1 h2)
end
def notT (t : Int) (l : List Sp) : List Sp := l.filter fun s => !decide (s.table = t)
def DelR (w1 : World) (g cap lo tb : Nat) (t : Int) (l : List Sp) (iv jv : Value) (wr : World) : Prop :=
  ∃ (i j : Nat) (vs : List Value), iv = .int .i64 (i : Int) ∧ jv = .int .i64 (j : Int) ∧ i < j ∧ j ≤ l.length ∧ RowQ 24 4 wr (.slice (some ⟨g, 0, none⟩) l.length cap) l.length vs ∧
    Flat Elt.sp (fun k => lo ≤ k ∧ k < w1.heap.size ∧ k ≠ g) wr (notT t (l.take j)) (vs.take (i * 4)) ∧ Flat Elt.sp (fun k => lo ≤ k ∧ k < w1.heap.size ∧ k ≠ g) wr (l.drop j) (vs.drop (j * 4)) ∧
    BoxN wr tb 3 [.int .i64 t] ∧ w1.grownBy wr (some g)
theorem notT_snoc {t : Int} {l : List Sp} {j : Nat} (h : j < l.length) : notT t (l.take (j + 1)) = notT t (l.take j) ++ (if l[j].table = t then [] else [l[j]]) := by
  unfold notT
  rw [List.take_succ_eq_append_getElem h, List.filter_append]
  congr 1
  by_cases e : l[j].table = t <;> simp [e]
set_option maxRecDepth 100000 in
set_option maxHeartbeats 8000000 in
theorem deleteOf_any (w : World) {base lo : Nat} {a : Option Addr} {n c : Nat} {l : List Sp} {tb : Nat} {t : Int} (hO : OwnL Elt.sp 24 base lo w (.slice a n c) l) (hB : BoxN w tb 3 [.int .i64 t]) (hne : (Value.slice a n c).ownBlock ≠ some tb) (hn : l.length ≤ 1000000) :
    Calls Try.prog 43 #[.slice a n c, .func (.func 41) #[] #[.pointer (some ⟨tb, 0, none⟩)]] w fun e w' => ∃ k, e = .returned (.slice a k c) ∧ OwnL Elt.sp 24 base lo w' (.slice a k c) (notT t l) ∧ w.grownBy w' (Value.slice a n c).ownBlock := by
  obtain rfl : n = l.length := hO.len
  have hlm : l.length ≤ 9223372036854775807 := by omega
  have hEE := enters_of Try.func41 (by kernel_rfl) rfl
  go_enter Try.func43, Try.ntmps43
  go_wp2_with fail
  refine (indexOf_any w hB hO.rdL).mono ?_
  rintro e w1 ⟨i0, rfl, hi, hb⟩
  rcases hi with ⟨rfl, hno⟩ | ⟨j0, hj0, rfl, hy, hno⟩
  · have hfl := Lib.hid (show notT t l = l from List.filter_eq_self.2 fun x hx => by have := hno x hx; simpa using this)
    clear hno
    go_wp2_with fail
    go_ret
    exact ⟨_, rfl, by rw [hfl.out]; exact hO.below hb, grownB hb _⟩
  replace hO := hO.below hb
  replace hB := hB.below hb hB.lt
  obtain ⟨ns, ⟨hlen, hrow⟩, hflat⟩ := hO
  rcases hrow with ⟨_, h2⟩ | ⟨g, cap, cur, h1, hbg, h2, h3, h4, h5, h6⟩
  · omega
  injection h1 with h1 _ h1c
  subst h1 h1c
  have hg1 : (Value.slice (some ⟨g, 0, none⟩) l.length c).ownBlock = some g := rfl
  have hgl : g < w1.heap.size := (Array.getElem?_eq_some_iff.1 h2).1
  have hgt : g ≠ tb := fun e => hne (by rw [e]; rfl)
  have hR : RowQ 24 4 w1 (.slice (some ⟨g, 0, none⟩) l.length c) l.length ns := RowQ.of h2 h3 h4 h5 h6 hflat.one
  replace hflat : Flat Elt.sp (fun k => lo ≤ k ∧ k < w1.heap.size ∧ k ≠ g) w1 l ns := hflat.weak fun k hk => ⟨hk.1, hk.2.1, fun e => hk.2.2 (by rw [e]; rfl)⟩
  have r0 : DelR w1 g c lo tb t l (.int .i64 ((j0 : Nat) : Int)) (.int .i64 ((j0 : Int) + 1)) w1 := by
    refine ⟨j0, j0 + 1, ns, rfl, by go_num, by omega, by omega, hR, ?_, hflat.dropE (j0 + 1), hB, Below.refl _ _ |> fun h => grownB h _⟩
    rw [notT_snoc hj0, if_pos (by simpa using hy), List.append_nil, show notT t (l.take j0) = l.take j0 from List.filter_eq_self.2 fun x hx => by have := hno x hx; simpa using this]
    exact hflat.take j0
  have dj : decide ((j0 : Int) = -1) = false := decide_eq_false (by omega)
  have dj2 : ((j0 : Int) == -1) = false := beq_eq_false_iff_ne.2 (by omega)
  have hgb : w.grownBy w1 (some g) := grownB hb _
  clear hy hno hlen h2 h5 h6 hR hflat hB hb hne
  go_upto_region 5 with (fail)
  go_loopw [5, 6] (fun iv jv wr => DelR w1 g c lo tb t l iv jv wr) (fun _ jv _ => l.length - (intOf jv).toNat)
  case atStart => exact r0
  case round =>
    clear r0 dj dj2
    obtain ⟨i, j, vs, rfl, rfl, hij, hjl, hR, hF, hG, hB, q⟩ := hrel
    rcases Nat.lt_or_ge j l.length with hlt | hge
    · rw [List.drop_eq_getElem_cons hlt] at hG
      obtain ⟨us, rest, eus, ⟨kv, hv, rfl, hk1, hk2, hw64⟩, hG⟩ := hG
      obtain ⟨A1, C1, rfl, _, _⟩ := hk1.shape
      obtain ⟨A2, C2, rfl, _, _⟩ := hk2.shape
      obtain ⟨x, ex⟩ : ∃ x, x = l[j] := ⟨_, rfl⟩
      have hns := Lib.hid (show notT t (l.take (j + 1)) = notT t (l.take j) ++ (if x.table = t then [] else [x]) by rw [ex]; exact notT_snoc hlt)
      rw [← ex] at hk1 hk2 hw64 eus
      clear ex
      have hcq : ∀ q u, (spC x (.slice A1 x.lo.length C1) (.slice A2 x.hi.length C2))[q]? = some u → wr.cell? ⟨g, j * 4 + q, none⟩ = some u := fun q u hq => hR.cell rfl (by
        rw [← List.getElem?_drop, eus, List.getElem?_append_left (List.getElem?_eq_some_iff.1 hq).1]; exact hq)
      have c0 : wr.cell? ⟨g, j * 4, none⟩ = some (.int .i64 x.table) := hcq 0 _ rfl
      have c1 := hcq 1 _ rfl
      have c2 := hcq 2 _ rfl
      have c3 := hcq 3 _ rfl
      have hG2 := Lib.hid (show rest = vs.drop ((j + 1) * 4) by
        rw [show (j + 1) * 4 = j * 4 + 4 by omega, ← List.drop_drop, eus]; rfl)
      have zr := hR.lt rfl
      clear hcq eus
      go_upto_region 8 with (first | (refine wpList_boxNew (vs := [.int .i64 0, .slice none 0 0, .slice none 0 0, .bool false]) (by kernel_rfl) rfl rfl ?_; intro wa hba hBa) | (refine wpList_boxStore (us := [.int .i64 x.table, .slice A1 x.lo.length C1, .slice A2 x.hi.length C2, .bool x.isOpen]) (by kernel_rfl) rfl rfl rfl rfl rfl rfl hBa rfl ?_; intro W hgw hXW) | fail)
      go_simp
      have hbw : Below wr.heap.size wr W := hba.grown hgw hba.size fun k hk => by injection hk with hk; omega
      have zq := q.size
      have hkp : ∀ k, (lo ≤ k ∧ k < w1.heap.size ∧ k ≠ g) → W.heap[k]? = wr.heap[k]? := fun k hk => hbw.block k (by omega)
      have hx : RdSp (fun k => lo ≤ k ∧ k < w1.heap.size ∧ k ≠ g) W (.agg #[.int .i64 x.table, .slice A1 x.lo.length C1, .slice A2 x.hi.length C2, .bool x.isOpen]) x := ⟨_, _, _, _, rfl, hk1.keep hkp, hk2.keep hkp, hw64⟩
      replace hR := hR.below hbw
      replace hF := hF.keep hkp
      replace hG := hG.keep hkp
      replace hB := hB.below hbw hB.lt
      replace q := grownT q (grownB hbw (some g))
      clear c0 c1 c2 c3 hk1 hk2 hba hBa hgw hbw hkp zq zr
      have f0 := hXW.cell (i := 0) rfl
      have f1 := hXW.cell (i := 1) rfl
      have f2 := hXW.cell (i := 2) rfl
      have f3 := hXW.cell (i := 3) rfl
      go_wp2_with fail
      refine (sOf_any W hx hB).mono ?_
      rintro e w3 ⟨rfl, hb3⟩
      have zq := q.size
      have hkp : ∀ k, (lo ≤ k ∧ k < w1.heap.size ∧ k ≠ g) → w3.heap[k]? = W.heap[k]? := fun k hk => hb3.block k (by omega)
      have hx3 : RdSp (fun k => lo ≤ k ∧ k < w1.heap.size ∧ k ≠ g) w3 (.agg #[.int .i64 x.table, .slice A1 x.lo.length C1, .slice A2 x.hi.length C2, .bool x.isOpen]) x := hx.keep hkp
      replace hR := hR.below hb3
      replace hF := hF.keep hkp
      replace hG := hG.keep hkp
      replace hB := hB.below hb3 hB.lt
      replace hXW := hXW.below hb3 hXW.lt
      replace q := grownT q (grownB hb3 (some g))
      have hvl := hR.len
      clear f0 f1 f2 f3 hx hb3 hkp
      by_cases hxt : x.table = t
      · rw [decide_eq_true hxt]
        have hns2 := Lib.hid (show notT t (l.take (j + 1)) = notT t (l.take j) by rw [hns.out, if_pos hxt, List.append_nil])
        clear hxt hns hx3 hXW
        go_wp2_with fail
        go_roundw
        case rel => exact ⟨i, j + 1, vs, rfl, by go_num, by omega, by omega, hR, by rw [hns2.out]; exact hF, by rw [← hG2.out]; exact hG, hB, q⟩
        case measure => simp [intOf]; omega
      · rw [decide_eq_false hxt]
        have hns2 := Lib.hid (show notT t (l.take (j + 1)) = notT t (l.take j) ++ [x] by rw [hns.out, if_neg hxt])
        clear hxt hns
        have f0 := hXW.cell (i := 0) rfl
        have f1 := hXW.cell (i := 1) rfl
        have f2 := hXW.cell (i := 2) rfl
        have f3 := hXW.cell (i := 3) rfl
        have hil : ((i : Nat) : Int) < (l.length : Int) := by omega
        go_wp2_with (first | (refine wpList_putQ4 (f := i * 4) spS.hs rfl rfl rfl rfl rfl rfl rfl rfl rfl hR rfl (by omega) ?_; intro w4 hg4 hR4) | fail)
        have hkp : ∀ k, (lo ≤ k ∧ k < w1.heap.size ∧ k ≠ g) → w4.heap[k]? = w3.heap[k]? := fun k hk => hg4.block k (by have := q.size; omega) fun e => by injection e with e; exact hk.2.2 e
        have hxR : Elt.sp.R (fun k => lo ≤ k ∧ k < w1.heap.size ∧ k ≠ g) w4 x [.int .i64 x.table, .slice A1 x.lo.length C1, .slice A2 x.hi.length C2, .bool x.isOpen] := rdSp_R (hx3.keep hkp)
        have htb := hB.lt
        replace hB := hB.other hg4 fun e => by injection e with e; exact hgt e
        replace q := grownT q hg4
        replace hF := (hF.keep hkp).append (Flat.single hxR)
        replace hG := hG.keep hkp
        clear f0 f1 f2 f3 hXW hx3 hR hg4 hkp hxR
        go_roundw
        case rel => exact ⟨i + 1, j + 1, _, by go_num, by go_num, by omega, by omega, hR4, by rw [hns2.out, show (i + 1) * 4 = i * 4 + 4 by omega, put4_take (by omega) rfl]; exact hF, by rw [put4_drop (by omega) (by omega) rfl, ← hG2.out]; exact hG, hB, q⟩
        case measure => simp [intOf]; omega
    · obtain rfl : j = l.length := by omega
      rw [List.take_length] at hF
      have hvl := hR.len
      have hil : (notT t l).length = i := by
        have h := hF.len
        rw [List.length_take, hvl] at h
        have h2 : Elt.sp.size = 4 := rfl
        rw [h2] at h
        omega
      rcases hR.cases with ⟨h1, _, _⟩ | ⟨g', cap', cur', h1, hg3, h3', h4', h5', h6'⟩
      · cases h1
      injection h1 with h1 _ h1c
      injection h1 with h1
      injection h1 with h1 _ _
      subst h1 h1c
      have hcne : c ≠ i := by omega
      have d0 : decide ((l.length : Int) < (l.length : Int)) = false := decide_eq_false (by omega)
      clear hG hB
      go_wp2_with (go_big_may; first
        | (refine wpList_sliceFrom spP.toLsP rfl rfl rfl (l := i) (r := l.length) (run_bounds_l' _ (by omega) (by omega)) hcne ?_)
        | (refine wpList_clearQ spP sps1 rfl rfl rfl rfl hg3 (.inr rfl) (.inr (by rw [h5', Nat.zero_add, ← Nat.add_mul]; exact Nat.mul_le_mul_right _ (by omega))) ?_; intro W4 C4 hg4 hs4 ht4 _ hgr4)
        | (refine wpList_sliceTo spP.toLsP rfl rfl rfl (run_bounds_h _ (by omega)) ?_)
        | fail)
      go_ret
      have zq := q.size
      have z4 := hgr4.size
      have hF4 := (hF.keep (w' := W4) fun k hk => hgr4.block k (by omega) fun e => by injection e with e; exact hk.2.2 e).weak (S' := fun k => lo ≤ k ∧ k < W4.heap.size ∧ some k ≠ (Value.slice (some ⟨g, 0, none⟩) i c).ownBlock) fun k hk => ⟨hk.1, by omega, fun e => by injection e with e; exact hk.2.2 e⟩
      refine ⟨i, rfl, ⟨vs.take (i * 4), ⟨?_, .inr ⟨g, c, C4, by rw [hil], hbg, hg4, by rw [hil]; omega, h4', by rw [hs4, h5']; rfl, ?_⟩⟩, hF4⟩, grownT (grownT hgb q) hgr4⟩
      · rw [List.length_take, hvl, hil]
        show min (i * 4) _ = i * 4
        omega
      · rw [hil]
        show C4.toList.take (i * 4) = _
        have h7 := ht4 (by omega)
        have h8 : C4.toList.take (i * 4) = cur'.toList.take (i * 4) := by
          first
            | exact h7
            | simpa using h7
        rw [h8, ← h6', List.take_take]
        congr 1
        omega
end Go.Proofs.Ytcopdnigfnmnkaa
