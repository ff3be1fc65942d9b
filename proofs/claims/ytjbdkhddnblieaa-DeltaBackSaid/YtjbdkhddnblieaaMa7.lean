/-
  TEXTS OF ONE PROOF, merged: Dmn, Dmo, Dmp, Dma, Dmb, Dli.
-/
import Derived.Carry
import Derived.Maps.Own
import Derived.Maps.Views
import Derived.Shelf.SlSortCmp.NoneTotal
import Derived.Test.YtjbdkhddnblieaaMa6
namespace Go.Proofs.Ytjbdkhddnblieaa
open Go.RowKit Go.Shelf Go.Maps Go.Sort
instance : Inhabited Plc := ⟨⟨0, []⟩⟩
theorem ltOf_cmpP : ltOf cmpP = ltP := by
  funext x y
  unfold ltOf cmpP ltP
  by_cases h : x.table = y.table
  · rw [if_pos h, cmp_lt]; simp [h]
  · rw [if_neg h]
    unfold cmpI
    by_cases h2 : x.table < y.table
    · simp [h2]
    · rw [if_neg h2]; split <;> simp [h, h2]
theorem swoP : SWO (ltOf cmpP) := by
  rw [ltOf_cmpP]
  refine ⟨totP.irr, fun _ _ _ h k => totP.tr h k, fun x y z h k => ?_⟩
  cases e : ltP x z with
  | false => rfl
  | true =>
    by_cases hxy : x = y
    · subst hxy; rw [k] at e; cases e
    · have := totP.tr (totP.tot hxy h) e
      rw [this] at k; cases k
theorem flat2_get : ∀ (ps : List Plc) (t : Nat), (ps.flatMap cellsP2)[t]? = (ps[t / 2]?).bind fun p => (cellsP2 p)[t % 2]?
  | [], t => by simp
  | p :: ps, 0 => by simp [cellsP2]
  | p :: ps, 1 => by simp [cellsP2]
  | p :: ps, t + 2 => by
    have h := flat2_get ps t
    rw [show (t + 2) / 2 = t / 2 + 1 by omega, show (t + 2) % 2 = t % 2 by omega, List.getElem?_cons_succ, ← h, List.flatMap_cons]
    simp [cellsP2]
theorem flat2_len (ps : List Plc) : (ps.flatMap cellsP2).length = ps.length * 2 := by
  induction ps with
  | nil => rfl
  | cons p ps ih => rw [List.flatMap_cons, List.length_append, ih, List.length_cons]; simp [cellsP2]; omega
theorem flatK_plc (ps : List Plc) : flatK cellsP2 2 ps.toArray = (ps.flatMap cellsP2).toArray := by
  refine Array.ext (by rw [size_flatK, List.size_toArray, List.size_toArray, flat2_len]) fun t h1 h2 => ?_
  have ht : t < ps.length * 2 := by simpa using h1
  have hq : t / 2 < ps.length := by omega
  have hg := flat2_get ps t
  rw [List.getElem?_eq_getElem hq, Option.bind_some] at hg
  have h3 : t % 2 < (cellsP2 ps[t / 2]).length := by simp [cellsP2]; omega
  rw [List.getElem?_eq_getElem h3, List.getElem?_eq_getElem (by rw [flat2_len]; exact ht)] at hg
  injection hg with hg
  simp only [List.getElem_toArray, hg]
  simp [flatK, hq, h3]
theorem holdsP {w : World} {g : Nat} {cur : Array Value} {e : TypeId} {ps : List Plc} (hb : w.heap[g]? = some (.cells cur e (0, 0))) (ht : cur.toList.take (ps.length * 2) = ps.flatMap cellsP2) : HoldsK cellsP2 2 w g 0 ps.toArray := by
  unfold HoldsK
  rw [flatK_plc]
  intro j hj
  have hj' : j < ps.length * 2 := by rw [List.size_toArray, flat2_len] at hj; exact hj
  refine ⟨?_, by simp [World.frozen?, hb]⟩
  have h1 : (cur.toList.take (ps.length * 2))[j]? = (ps.flatMap cellsP2)[j]? := by rw [ht]
  rw [List.getElem?_take_of_lt hj'] at h1
  simp only [World.cell?, hb, Nat.zero_add]
  simp only [Option.isSome_none, Bool.false_eq_true, if_false]
  rw [← Array.getElem?_toList, h1]
  have hl : j < (ps.flatMap cellsP2).length := by rw [flat2_len]; exact hj'
  rw [List.getElem?_eq_getElem hl, getElem!_pos _ j (by simpa using hj)]
  rfl
theorem heapP_sorted {w : World} {g n : Nat} {os : Array Obj} {cur : Array Value} {e : TypeId} {fr : Nat × Nat} (d : Array Plc) (hb : w.heap[g]? = some (.cells cur e fr)) :
    (sortWorldK cellsP2 2 w g 0 n d os).heap[g]? = some (.cells (putCells id 0 (flatK cellsP2 2 d) cur) e fr) := by
  have hg : g < w.heap.size := (Array.getElem?_eq_some_iff.1 hb).1
  unfold sortWorldK putRowK
  rw [heap_grow_old _ _ (by simpa using hg)]
  simp [putRow, mapBlock, Sort.ahead, Array.getElem?_modify, hb, onCells]
theorem grownByP_sorted {w : World} {g n : Nat} {os : Array Obj} (d : Array Plc) : w.grownBy (sortWorldK cellsP2 2 w g 0 n d os) (some g) := by
  unfold sortWorldK putRowK
  refine ⟨rfl, rfl, rfl, by simp, fun k hk hne => ?_⟩
  rw [heap_grow_old _ _ (by simpa using hk)]
  have : g ≠ k := fun e => hne (by rw [e])
  simp [putRow, mapBlock, Sort.ahead, Array.getElem?_modify, this]
theorem takeP (cur : Array Value) (vs : List Value) (h : vs.length ≤ cur.size) : (putCells id 0 vs.toArray cur).toList.take vs.length = vs := by
  apply List.ext_getElem?
  intro j
  by_cases hj : j < vs.length
  · rw [List.getElem?_take_of_lt hj, Array.getElem?_toList]
    simp [putCells, hj, show j < cur.size by omega]
  · rw [List.getElem?_take_eq_none (by omega), List.getElem?_eq_none (by omega)]
def sortPl (ps : List Plc) : List Plc := ps.mergeSort fun x y => !ltP y x
theorem sortPl_perm (ps : List Plc) : (sortPl ps).Perm ps := List.mergeSort_perm _ _
theorem sortPl_srt {ps : List Plc} (h : ps.Nodup) : SrtE ltP id (sortPl ps) := by
  have hn : (sortPl ps).Nodup := (sortPl_perm ps).nodup_iff.2 h
  have hs : (sortPl ps).Pairwise (fun x y => (!ltP y x) = true) := List.pairwise_mergeSort (fun a b c h k => by
    simp only [Bool.not_eq_true'] at h k ⊢
    have := swoP.ntrans c b a (by rw [ltOf_cmpP]; exact k) (by rw [ltOf_cmpP]; exact h)
    rwa [ltOf_cmpP] at this) (fun a b => by
    cases e : ltP b a with
    | false => simp
    | true =>
      have : ltP a b = false := by
        cases e2 : ltP a b with
        | false => rfl
        | true => have := totP.tr e e2; rw [totP.irr] at this; cases this
      simp [this]) ps
  refine (hs.and hn).imp fun {a b} hab => ?_
  exact totP.tot (fun e => hab.2 e.symm) (by simpa using hab.1)
set_option maxRecDepth 100000 in
theorem sortP_any (w : World) {base : Nat} {v : Value} {ps : List Plc} (h : w.ownsRow base 62 2 v ps.length (ps.flatMap cellsP2)) (hn : ps.length ≤ 1000000) :
    Calls Try.prog 52 #[v, .func (.func 41) #[] #[]] w fun e w' => e = .returned (.tuple #[]) ∧ w'.ownsRow base 62 2 v ps.length ((sortPl ps).flatMap cellsP2) ∧ w.grownBy w' v.ownBlock := by
  have hl := h.1
  rcases h.2 with ⟨rfl, h0⟩ | ⟨g, cap, cur, rfl, hbase, hb, h1, h2, h3, h4⟩
  · obtain rfl : ps = [] := List.length_eq_zero_iff.1 h0
    refine (AnyF.slices_SortFunc_none sortLaid none 0 (.func (.func 41) #[] #[]) w).mono ?_
    rintro e w' ⟨rfl, rfl⟩
    exact ⟨rfl, ⟨by rw [flat2_len, (sortPl_perm []).length_eq], .inl ⟨rfl, rfl⟩⟩, rfl, rfl, rfl, Nat.le_refl _, fun _ _ _ => rfl⟩
  · have hc : CmpLays Try.prog 41 #[] cellsP2 2 cmpP g 0 ps.toArray.size w := fun m os dk hs x y => by
      rw [Array.append_empty]
      exact compareP_any _ x y
    have hs := AnyQ.slices_SortFunc_total sortLaid 2 Try.isAgg62 Try.sizeOf62 cellsP2 (fun _ => rfl) (fun x v hv => by simp [cellsP2] at hv; rcases hv with rfl | rfl <;> rfl) cmpP swoP 41 #[] g 0 cap ps.toArray w (enters_of Try.func41 (by kernel_rfl) rfl) hc (holdsP hb h4) (Array.getElem?_eq_some_iff.1 hb).1 (by simp; omega)
      (fun x y h k => by
        rw [ltOf_cmpP] at h k
        by_cases e : x = y
        · exact e
        · have := totP.tot e h; rw [this] at k; cases k)
    refine hs.mono ?_
    rintro e w' ⟨rfl, n, os, rfl⟩
    rw [ltOf_cmpP]
    have hp : (ps.toArray.toList.mergeSort fun x y => !ltP y x) = sortPl ps := rfl
    rw [hp]
    have hlen : (sortPl ps).length = ps.length := (sortPl_perm ps).length_eq
    refine ⟨rfl, ⟨by rw [flat2_len, hlen], .inr ⟨g, cap, _, rfl, hbase, heapP_sorted _ hb, h1, h2, by simp [putCells, h3], ?_⟩⟩, grownByP_sorted _⟩
    rw [flatK_plc, ← hlen, ← flat2_len]
    exact takeP cur _ (by rw [flat2_len, hlen, h3]; exact Nat.mul_le_mul_right 2 h1)
def PlcS {H : Type} (D0 : DataW H) (qs : List Plc) : Prop := SrtE ltP id qs ∧ (∀ p ∈ qs, wfP p) ∧ (∀ p, wfP p → (p ∈ qs ↔ has D0 (klP p) = true)) ∧ qs.length ≤ Maps.size D0
theorem PlcOf.sorted {H : Type} {D0 : DataW H} {ps : List Plc} (h : PlcOf D0 ps) : PlcS D0 (sortPl ps) :=
  ⟨sortPl_srt h.1, fun p hp => h.2.1 p ((sortPl_perm ps).mem_iff.1 hp), fun p hp => by rw [(sortPl_perm ps).mem_iff]; exact h.2.2.1 p hp, by rw [(sortPl_perm ps).length_eq]; exact h.2.2.2⟩
set_option maxRecDepth 100000 in
theorem sortedP_any (w : World) {H : Type} (Bm b nn : Nat) (D0 : DataW H) {R : Value → Option (DataW H × List MemPlace)} (hm : w.cell? ⟨Bm, 0, none⟩ = some (.map (some b))) (hown : w.ownsMap Try.prog 62 R b nn D0) (hN : Maps.size D0 ≤ 1000000) :
    Calls Try.prog 39 #[.func (.func 53) #[] #[.pointer (some ⟨Bm, 0, none⟩)], .func (.func 41) #[] #[]] w fun e w' =>
      ∃ v qs, e = .returned v ∧ PlcS D0 qs ∧ w'.ownsRow w.heap.size 62 2 v qs.length (qs.flatMap cellsP2) ∧ Below w.heap.size w w' := by
  have ha := collectP_any w Bm b nn D0 hm hown hN
  clear hm hown
  go_enter Try.func39, Try.ntmps39
  go_wp2_with fail
  refine ha.mono ?_
  rintro e w2 ⟨v, ps, rfl, h1, h2, h3⟩
  clear ha
  have hsz := h3.size
  have hlt := h2.lt
  have hs := sortP_any w2 h2 (Nat.le_trans h1.2.2.2 hN)
  obtain ⟨a, c, rfl⟩ : ∃ a c, v = .slice a ps.length c := by
    rcases h2.2 with ⟨rfl, h0⟩ | ⟨g, cap, cur, rfl, _⟩
    · rw [h0]; exact ⟨none, 0, rfl⟩
    · exact ⟨_, _, rfl⟩
  go_wp2_with fail
  refine hs.mono ?_
  rintro e w3 ⟨rfl, h4, h5⟩
  clear hs
  go_wp2_with fail
  go_ret
  have hlen : (sortPl ps).length = ps.length := (sortPl_perm ps).length_eq
  exact ⟨_, sortPl ps, rfl, h1.sorted, by rw [hlen]; exact h4, h3.grown h5 hsz fun k e => (hlt k e).1⟩
end Go.Proofs.Ytjbdkhddnblieaa
namespace Go.Proofs.Ytjbdkhddnblieaa
open Go.RowKit Go.Shelf Go.Maps
def mapT (ws : List Wr) : Nat → DataW Unit
  | 0 => .map []
  | i + 1 => match ws[i]? with
    | some w => (mapT ws i).put (klP w.plc) (.lit (.int .i64 (i : Nat)))
    | none => mapT ws i
theorem mapT_succ {ws : List Wr} {i : Nat} {w : Wr} (h : ws[i]? = some w) : mapT ws (i + 1) = (mapT ws i).put (klP w.plc) (.lit (.int .i64 (i : Nat))) := by simp only [mapT, h]
theorem mapT_isMap (ws : List Wr) : ∀ i, IsMap (mapT ws i)
  | 0 => isMap_empty
  | i + 1 => by
    unfold mapT
    cases h : ws[i]? with
    | some w => exact (mapT_isMap ws i).put _ _
    | none => exact mapT_isMap ws i
theorem klP_lit (p : Plc) : WideAt.IsKeyLit (klP p) := trivial
def AtT (ws : List Wr) (i : Nat) (p : Plc) : Prop :=
  ((∀ j w, j < i → ws[j]? = some w → w.plc ≠ p) ∧ has (mapT ws i) (klP p) = false) ∨
  ∃ j w, j < i ∧ ws[j]? = some w ∧ w.plc = p ∧ (∀ j' w', j < j' → j' < i → ws[j']? = some w' → w'.plc ≠ p) ∧ has (mapT ws i) (klP p) = true ∧ ∀ z, (mapT ws i).atKey (klP p) z = .lit (.int .i64 (j : Nat))
theorem atT {ws : List Wr} (hw : ∀ w ∈ ws, wfP w.plc) {p : Plc} (hp : wfP p) : ∀ i, i ≤ ws.length → AtT ws i p
  | 0, _ => .inl ⟨fun j w h => by omega, rfl⟩
  | i + 1, hi => by
    obtain ⟨w, hwi⟩ : ∃ w, ws[i]? = some w := ⟨_, List.getElem?_eq_getElem (by omega)⟩
    have hm := mapT_succ hwi
    have hwf := hw w (List.mem_of_getElem? hwi)
    by_cases e : w.plc = p
    · refine .inr ⟨i, w, Nat.lt_succ_self i, hwi, e, fun j' w' h1 h2 => by omega, ?_, fun z => ?_⟩
      · rw [hm, e]; exact has_put_same (mapT_isMap ws i) (klP_lit p) _
      · rw [hm, e]; exact atKey_put_same (mapT_isMap ws i) (klP_lit p) _ z
    · have hne : klP p ≠ klP w.plc := fun h => e (klP_inj hp hwf h).symm
      rcases atT hw hp i (by omega) with ⟨h1, h2⟩ | ⟨j, v, h1, h2, h3, h4, h5, h6⟩
      · refine .inl ⟨fun j v hj hv => ?_, by rw [hm, has_put_other hne]; exact h2⟩
        by_cases ej : j = i
        · subst ej; rw [hwi] at hv; injection hv with hv; subst hv; exact e
        · exact h1 j v (by omega) hv
      · refine .inr ⟨j, v, by omega, h2, h3, fun j' w' a b hv => ?_, by rw [hm, has_put_other hne]; exact h5, fun z => by rw [hm, atKey_put_other hne]; exact h6 z⟩
        by_cases ej : j' = i
        · subst ej; rw [hwi] at hv; injection hv with hv; subst hv; exact e
        · exact h4 j' w' a (by omega) hv
theorem mapT_has {ws : List Wr} (hw : ∀ w ∈ ws, wfP w.plc) {p : Plc} (hp : wfP p) : has (mapT ws ws.length) (klP p) = true ↔ ∃ w ∈ ws, w.plc = p := by
  rcases atT hw hp ws.length (Nat.le_refl _) with ⟨h1, h2⟩ | ⟨j, v, h1, h2, h3, _, h5, _⟩
  · rw [h2]
    constructor
    · intro h; cases h
    · rintro ⟨w, hw, e⟩
      obtain ⟨j, hj, e2⟩ := List.mem_iff_getElem.1 hw
      exact absurd e (h1 j w hj (by rw [List.getElem?_eq_getElem hj, e2]))
  · exact ⟨fun _ => ⟨v, List.mem_of_getElem? h2, h3⟩, fun _ => h5⟩
theorem plcS_last {ws : List Wr} (hw : ∀ w ∈ ws, wfP w.plc) {qs : List Plc} (h : PlcS (mapT ws ws.length) qs) : qs = (lastW ws).map Wr.plc := by
  refine places_last h.1 fun p => ⟨fun hp => (mapT_has hw (h.2.1 p hp)).1 ((h.2.2.1 p (h.2.1 p hp)).1 hp), ?_⟩
  rintro ⟨w, hm, rfl⟩
  exact (h.2.2.1 _ (hw w hm)).2 ((mapT_has hw (hw w hm)).2 ⟨w, hm, rfl⟩)
theorem last_at {ws : List Wr} (hw : ∀ w ∈ ws, wfP w.plc) {k : Nat} (hk : k < (lastW ws).length) : ∃ j : Nat, ws[j]? = some (lastW ws)[k] ∧ ∀ z, (mapT ws ws.length).atKey (klP (lastW ws)[k].plc) z = .lit (.int .i64 (j : Nat)) := by
  have hm := last_mem (List.getElem_mem hk)
  rcases atT hw (hw _ hm) ws.length (Nat.le_refl _) with ⟨h1, _⟩ | ⟨j, v, h1, h2, h3, h4, _, h6⟩
  · obtain ⟨j, hj, e2⟩ := List.mem_iff_getElem.1 hm
    exact absurd rfl (h1 j _ hj (by rw [List.getElem?_eq_getElem hj, e2]))
  · refine ⟨j, ?_, h6⟩
    have hf := findW_last h2 fun j' w' h7 h8 => by rw [h3]; exact h4 j' w' h7 (List.getElem?_eq_some_iff.1 h8).1 h8
    rw [h3, ← last_find, findE_mem totP (last_srt ws) (List.getElem_mem hk)] at hf
    rw [hf]; exact h2
theorem size_le {P : Program} {w : World} {k : TypeId} {R : Value → Option (DataW Unit × List MemPlace)} {b n : Nat} {D : DataW Unit} (h : w.ownsMap P k R b n D) : Maps.size D ≤ n := by
  obtain ⟨es, clock, hb, F, hs, rfl⟩ := h
  show (List.foldr DataW.insert [] _).length ≤ n
  rw [length_sorted]
  simpa using hs
end Go.Proofs.Ytjbdkhddnblieaa
namespace Go.Proofs.Ytjbdkhddnblieaa
open Go.RowKit Go.Shelf Go.Maps
theorem wp_lookupI {H : Type} {P : Program} {k e t : TypeId} {b n : Nat} {D : DataW H} {o : Oper} {a : Act} {w : World} {Kk : Act → World → Prop} {Q : Exit → Act → World → Prop} {m x : Operand} {q : IntKind} {key : Value} {kl : Lit} {c : Int} (hown : w.ownsMap P k (plainElem P e) b n D) (K : Keyed P k) (ht : P.underlying t = some (.map k e)) (he : P.underlying e = some (.int q)) (hz : (zeroValue e).run P w = .ok (.int q 0) w)
    (ho : o.op = .lookup t m x false) (hm : a.eval m = .map (some b)) (hx : a.eval x = key) (hkey : keyOf P k key = some kl) (hc : D.atKey kl (.lit (.int q 0)) = .lit (.int q c)) (h : Kk (a.put o.dst (.int q c)) w) : o.wp P a w Kk Q := by
  obtain ⟨c', hrun, hat, _⟩ := hown.lookup_int K ht he hz hkey
  rw [hc] at hat
  injection hat with hat
  injection hat with _ hat
  subst hat
  unfold Oper.wp
  simp [execOp, ho, hm, hx, hrun, Result.andThen]
  exact h
theorem rowP_at {w : World} {base n c : Nat} {a : Option Addr} {ps : List Plc} (h : w.ownsRow base 62 2 (.slice a n c) n (ps.flatMap cellsP2)) (hn : n = ps.length) {k : Nat} (hk : k < ps.length) : ∃ g, g < w.heap.size ∧ a = some ⟨g, 0, none⟩ ∧ w.cell? ⟨g, k * 2, none⟩ = some (.int .i64 ps[k].table) ∧ w.cell? ⟨g, k * 2 + 1, none⟩ = some (.string (strOf ps[k].key)) := by
  rcases h.2 with ⟨e, h0⟩ | ⟨g, cap, cur, e, _, hb, h1, h2, h3, h4⟩
  · omega
  · injection e with e _ _
    have hc : ∀ j, j < n * 2 → w.cell? ⟨g, j, none⟩ = (ps.flatMap cellsP2)[j]? := fun j hj => by
      have h5 : (cur.toList.take (n * 2))[j]? = (ps.flatMap cellsP2)[j]? := by rw [h4]
      rw [List.getElem?_take_of_lt hj] at h5
      simp only [World.cell?, hb]
      simp only [Option.isSome_none, Bool.false_eq_true, if_false]
      rw [← Array.getElem?_toList, h5]
    refine ⟨g, (Array.getElem?_eq_some_iff.1 hb).1, e, ?_, ?_⟩
    · rw [hc _ (by omega), flat2_get, show k * 2 / 2 = k by omega, show k * 2 % 2 = 0 by omega, List.getElem?_eq_getElem hk]; rfl
    · rw [hc _ (by omega), flat2_get, show (k * 2 + 1) / 2 = k by omega, show (k * 2 + 1) % 2 = 1 by omega, List.getElem?_eq_getElem hk]; rfl
set_option maxRecDepth 100000 in
set_option maxHeartbeats 8000000 in
theorem dLast_any (w : World) {S : Nat → Prop} {v : Value} {d : Dl} (h : RdDl S w v d) : Calls Try.prog 23 #[v] w (WsEnd w (lastD d)) := by
  have hd := h
  obtain ⟨a, c, a2, c2, rfl, hw, hm⟩ := h
  obtain ⟨W0, hW⟩ : ∃ W, W = w.alloc (.cells #[.slice a d.writes.length c, .slice a2 d.marks.length c2] 25) := ⟨_, rfl⟩
  have q : Below w.heap.size w W0 := by rw [hW]; exact (Below.refl _ _).alloc (Nat.le_refl _) _
  have bn : BoxN W0 w.heap.size 25 [.slice a d.writes.length c, .slice a2 d.marks.length c2] := by rw [hW]; exact BoxN.new _ _ _
  have hmm := @run_makeMap Try.prog
  have eA : ∀ args w, (callFunc 31 args).run Try.prog w = .ok (.enter 31 args) w := enters_of Try.func31 (by kernel_rfl) rfl
  go_enter Try.func23, Try.ntmps23
  go_upto_region 1 with (fail)
  rw [← hW]
  clear hW
  have b0 := bn.cell (i := 0) rfl
  have b1 := bn.cell (i := 1) rfl
  go_wp2_with fail
  refine (dCheck_any W0 (hd.below q)).mono ?_
  rintro e w0 ⟨rfl, hb0⟩
  replace q := q.trans (hb0.mono q.size)
  replace bn := bn.below hb0 bn.lt
  clear b0 b1 hb0
  by_cases hok : okD d
  case neg =>
    have dok : decide (okD d) = false := decide_eq_false hok
    have HK := Lib.hid (show lastD d = [] by unfold lastD; rw [if_neg hok])
    clear hok
    go_wp2_with fail
    go_ret
    rw [HK.out]
    exact ⟨none, 0, rfl, OwnL.nil _ _ _ _ _, q⟩
  case pos =>
  have dok : decide (okD d) = true := decide_eq_true hok
  have hl20 : d.writes.length ≤ 20 := hok.1
  have hwf : ∀ x ∈ d.writes, wfP x.plc := fun x hx => by
    obtain ⟨h1, h2, h3, _⟩ := hok.2.2.1 x hx
    exact ⟨by show W64 x.table; unfold W64; omega, by show x.key.length ≤ maxLen; unfold maxLen; omega⟩
  have hsm := Lib.hid hok.2.2.1
  have HK := Lib.hid (show lastD d = lastW d.writes by unfold lastD; rw [if_pos hok])
  replace hok := Lib.hid hok
  go_upto_region 4 with (fail)
  have hown0 := World.ownsMap_made w0 Try.prog 62 (plainElem (H := Unit) Try.prog 3)
  obtain ⟨w1, hw1⟩ : ∃ w1, w1 = w0.alloc (.map #[] 0) := ⟨_, rfl⟩
  rw [← hw1] at hown0 ⊢
  have hb1 : Below w0.heap.size w0 w1 := by rw [hw1]; exact (Below.refl _ _).alloc (Nat.le_refl _) _
  clear hw1 hmm
  obtain ⟨mb, hmb⟩ : ∃ mb, mb = w0.heap.size := ⟨_, rfl⟩
  rw [← hmb] at hown0 ⊢
  have hmw : w.heap.size < mb := by have := bn.lt; omega
  replace bn := bn.below hb1 bn.lt
  replace q := q.trans (hb1.mono q.size)
  clear hb1 hmb
  have b0 := bn.cell (i := 0) rfl
  go_upto_region 5 with (fail)
  clear b0
  go_loopw [16] (fun iv wr => ∃ i : Nat, iv = .int .i64 i ∧ i ≤ d.writes.length ∧ wr.ownsMap Try.prog 62 (plainElem Try.prog 3) mb i (mapT d.writes i) ∧ BoxN wr w.heap.size 25 [.slice a d.writes.length c, .slice a2 d.marks.length c2] ∧ Below w.heap.size w wr)
    (fun i _ => d.writes.length - (intOf i).toNat)
  case atStart => exact ⟨0, rfl, Nat.zero_le _, hown0, bn, q⟩
  case round =>
    clear q bn hown0
    obtain ⟨i, rfl, hil, hown, bn, q⟩ := hrel
    rcases Nat.lt_or_ge i d.writes.length with hlt | hge
    · obtain ⟨ab, ao, XA, XC, XB, XD, rfl, hxb0, x0, x1, x2, x3, hxk, hxv, hxt⟩ := (hw.below q).wr i hlt
      obtain ⟨x, ex⟩ : ∃ x, x = d.writes[i] := ⟨_, rfl⟩
      have hxwf : wfP x.plc := ex ▸ hwf _ (List.getElem_mem hlt)
      have hms := Lib.hid (mapT_succ (List.getElem?_eq_getElem hlt))
      rw [← ex] at x0 x1 x2 x3 hxk hxv hxt hms
      have hkey := keyOf_plc hxwf
      dsimp only [valP] at hkey
      clear ex hxb0
      go_upto_region 7 with (first | (refine wpList_boxNew (vs := [.int .i64 0, .slice none 0 0, .bool false, .slice none 0 0]) (by kernel_rfl) rfl rfl ?_; intro wa hba hBa) | (refine wpList_boxStore (us := [.int .i64 x.table, .slice XA x.key.length XC, .bool x.gone, .slice XB x.val.length XD]) (by kernel_rfl) rfl rfl rfl rfl rfl rfl hBa rfl ?_; intro W3 hgw hX) | fail)
      go_simp
      have hbw : Below wr.heap.size wr W3 := hba.grown hgw hba.size fun k hk => by injection hk with hk; omega
      have q3 := q.trans (hbw.mono q.size)
      have hxw : RdWr S W3 (.agg #[.int .i64 x.table, .slice XA x.key.length XC, .bool x.gone, .slice XB x.val.length XD]) x := RdWr.below ⟨XA, XC, XB, XD, rfl, hxk, hxv, hxt⟩ hbw
      replace bn := bn.below hbw bn.lt
      have hml := hown.lt
      replace hown := hown.kept (grown_bel hbw) (by simp)
      clear x0 x1 x2 x3 hxk hxv hxt hba hBa hgw hbw
      have x0 := hX.cell (i := 0) rfl
      have x1 := hX.cell (i := 1) rfl
      have x2 := hX.cell (i := 2) rfl
      have x3 := hX.cell (i := 3) rfl
      go_wp2_with fail
      refine (placed_any W3 hxw).mono ?_
      rintro e w4 ⟨rfl, hb4⟩
      replace bn := bn.below hb4 bn.lt
      replace hown := hown.kept (grown_bel hb4) (by simp)
      have q4 := q3.trans (hb4.mono q3.size)
      clear x0 x1 x2 x3 hX hxw
      go_wp2_with (first
        | (at_mapUpdate; refine wpList_mapUpdate_own _ rfl _ _ _ 67 rfl 62 3 keyedP Try.underlying67 _ mb i _ rfl hown (by unfold maxLen; omega) _ _ _ rfl rfl hkey _ [] (plainElem_int Try.underlying3 (wf_W64 (by unfold W64; omega))) ?_; intro w5 hown5 hg5)
        | fail)
      go_roundw
      case rel =>
        rw [← hms.out] at hown5
        exact ⟨i + 1, by go_num, by omega, hown5, bn.other hg5 (by simp; omega), q4.grown hg5 q4.size fun k hk => by injection hk with hk; omega⟩
      case measure => simp [intOf]; omega
    · obtain rfl : i = d.writes.length := by omega
      clear hge hil
      have hsz20 := size_le hown
      have b0 := bn.cell (i := 0) rfl
      have hmlt := hown.lt
      go_wp2_with fail
      refine (keysP_any wr mb).mono ?_
      rintro e w4 ⟨rfl, hw4⟩
      have hb4 : Below wr.heap.size wr w4 := by rw [hw4]; exact (Below.refl _ _).alloc (Nat.le_refl _) _
      have hc4 : w4.cell? ⟨wr.heap.size, 0, none⟩ = some (.map (some mb)) := by rw [hw4]; exact (Boxed.new wr _ _).cell
      clear hw4 b0
      replace hown := hown.kept (grown_bel hb4) (by simp)
      replace bn := bn.below hb4 bn.lt
      have q4 := q.trans (hb4.mono q.size)
      have hst := sortedP_any w4 wr.heap.size mb d.writes.length (mapT d.writes d.writes.length) hc4 hown (by omega)
      clear hb4 hc4 q
      go_wp2_with fail
      refine hst.mono ?_
      rintro e w5 ⟨v5, qs, rfl, hqs, hrow, hb5⟩
      clear hst
      have hqe := plcS_last hwf hqs
      clear hqs
      subst hqe
      replace hown := hown.kept (grown_bel hb5) (by simp)
      replace bn := bn.below hb5 bn.lt
      have q5 := q4.trans (hb5.mono q4.size)
      have hml5 := hown.lt
      clear hb5
      obtain ⟨n5, hn5⟩ : ∃ n5, n5 = ((lastW d.writes).map Wr.plc).length := ⟨_, rfl⟩
      have hn5' : n5 = (lastW d.writes).length := by rw [hn5, List.length_map]
      rw [← hn5] at hrow
      obtain ⟨a5, c5, rfl⟩ : ∃ a c, v5 = .slice a n5 c := by
        rcases hrow.2 with ⟨rfl, h0⟩ | ⟨g, cap, cur, rfl, _⟩
        · rw [h0]; exact ⟨none, 0, rfl⟩
        · exact ⟨_, _, rfl⟩
      have hrc := Lib.hid (fun k (hk : k < (lastW d.writes).length) => rowP_at hrow hn5 (k := k) (by rw [List.length_map]; exact hk))
      clear hrow hn5
      replace hn5' := Lib.hid hn5'
      have hl5 : n5 ≤ 20 := by have := last_len d.writes; have := hn5'.out; omega
      go_upto_region 11 with (fail)
      go_loopw [6, 30] (fun ov iv wr => ∃ (k : Nat) (ad : Option Addr) (ko : Nat), iv = .int .i64 k ∧ k ≤ n5 ∧ ov = .slice ad ((lastW d.writes).take k).length ko ∧ OwnL Elt.wr 28 w5.heap.size w5.heap.size wr (.slice ad ((lastW d.writes).take k).length ko) ((lastW d.writes).take k) ∧ Below w5.heap.size w5 wr)
        (fun _ i _ => n5 - (intOf i).toNat)
      case atStart => exact ⟨0, none, 0, rfl, Nat.zero_le _, rfl, OwnL.nil _ _ _ _ _, Below.refl _ _⟩
      case round =>
        obtain ⟨k, ad, ko, rfl, hkl, rfl, hO, q6⟩ := hrel
        rename World => w6
        rcases Nat.lt_or_ge k n5 with hlt | hge
        · have hkL : k < (lastW d.writes).length := by have := hn5'.out; omega
          obtain ⟨g, hg5, ea5, p0, p1⟩ := hrc.out k hkL
          subst ea5
          obtain ⟨j, hj, hat⟩ := last_at hwf hkL
          have hjl : j < d.writes.length := (List.getElem?_eq_some_iff.1 hj).1
          have hyj : d.writes[j] = (lastW d.writes)[k] := (List.getElem?_eq_some_iff.1 hj).2
          obtain ⟨hm1, hm2, hm3, hm4, _⟩ := hsm.out _ (List.getElem_mem hjl)
          have hywf := hwf _ (List.getElem_mem hjl)
          obtain ⟨ab, ao, YA, YC, YB, YD, rfl, hyb, y0, y1, y2, y3, hyk, hyv, hyt⟩ := hw.fit.wr j hjl
          have hsn := Lib.hid (show (lastW d.writes).take (k + 1) = (lastW d.writes).take k ++ [d.writes[j]] by rw [List.take_succ_eq_append_getElem hkL, hyj])
          rw [List.getElem_map, ← hyj] at p0 p1
          rw [← hyj] at hat
          obtain ⟨y, ey⟩ : ∃ y, y = d.writes[j] := ⟨_, rfl⟩
          obtain ⟨xs, exs⟩ : ∃ xs, xs = (lastW d.writes).take k := ⟨_, rfl⟩
          have hxl : xs.length ≤ 20 := by rw [exs, List.length_take]; omega
          rw [← ey] at y0 y1 y2 y3 hyk hyv hyt hm3 hm4 hywf hsn hat p0 p1
          rw [← exs] at hO hsn
          rw [← exs]
          have hkey := keyOf_plc hywf
          dsimp only [valP] at hkey
          simp only [Wr.plc] at p0 p1 hkey
          replace hat := hat (.lit (.int .i64 0))
          clear ey exs hj hyj hm1 hm2 hywf
          replace p0 := (q6.cell (p := ⟨g, _, none⟩) hg5).trans p0
          replace p1 := (q6.cell (p := ⟨g, _, none⟩) hg5).trans p1
          go_upto_region 13 with (first | (refine wpList_boxNew (vs := [.int .i64 0, .string (strOf [])]) (by kernel_rfl) rfl rfl ?_; intro wa hba hBa) | (refine wpList_boxStore (us := [.int .i64 y.table, .string (strOf y.key)]) (by kernel_rfl) rfl rfl rfl rfl rfl rfl hBa rfl ?_; intro W hgw hXW) | fail)
          go_simp
          have hz56 := q6.size
          have hbw : Below w6.heap.size w6 W := hba.grown hgw hba.size fun k hk => by injection hk with hk; omega
          have hzw := hbw.size
          have q7 := q6.trans (hbw.mono q6.size)
          have qW : Below w.heap.size w W := q5.trans (q7.mono q5.size)
          have hbn5 := bn.lt
          have bnW := bn.below q7 bn.lt
          have hownW := hown.kept (grown_bel q7) (by simp)
          have hrr : ∀ k, Value.ownBlock (.slice ad xs.length ko) = some k → w5.heap.size ≤ k ∧ k < w6.heap.size := fun k hk => hO.block_lt k hk
          have hrW : ∀ k, Value.ownBlock (.slice ad xs.length ko) = some k → k < W.heap.size := fun k hk => by have := hrr k hk; omega
          have hS : ∀ k, (fun _ => False) k → some k ≠ Value.ownBlock (.slice ad xs.length ko) := fun _ h => h.elim
          have hrS : ∀ k, Value.ownBlock (.slice ad xs.length ko) = some k → ¬ (S k ∧ k < w.heap.size) := fun k hk h2 => by have := hrr k hk; omega
          have hxr : Value.ownBlock (.slice ad xs.length ko) ≠ some w6.heap.size := fun e => by have := hrr _ e; omega
          have hdr : Value.ownBlock (.slice ad xs.length ko) ≠ some w.heap.size := fun e => by have := hrr _ e; omega
          have hmr : some mb ≠ Value.ownBlock (.slice ad xs.length ko) := fun e => by have := hrr _ e.symm; omega
          have har : some ab ≠ Value.ownBlock (.slice ad xs.length ko) := fun e => by have := hrr _ e.symm; have := hyb.2; omega
          have habW : ab < W.heap.size := by have := qW.size; have := hyb.2; omega
          replace hO := hO.below hbw
          replace y0 := (qW.cell (p := ⟨ab, _, none⟩) hyb.2).trans y0
          replace y1 := (qW.cell (p := ⟨ab, _, none⟩) hyb.2).trans y1
          replace y2 := (qW.cell (p := ⟨ab, _, none⟩) hyb.2).trans y2
          replace y3 := (qW.cell (p := ⟨ab, _, none⟩) hyb.2).trans y3
          replace hyk := hyk.below qW
          replace hyv := hyv.below qW
          have hlo : w5.heap.size ≤ W.heap.size := q7.size
          clear p0 p1 hba hBa hgw hbw hzw hz56 bn hown
          refine wp_region_lnl (K := fun A B => A.grownBy B (Value.ownBlock (.slice ad xs.length ko))) (by kernel_rfl) (by kernel_rfl) [10, 11] (by kernel_rfl) [lEq (.slice ad xs.length ko), lEq (.pointer (some ⟨w.heap.size, 0 + 0, none⟩)), lEq (.slice (some ⟨ab, ao, none⟩) d.writes.length c), lEq (.map (some mb)), lEq (.agg #[.int .i64 y.table, .string (strOf y.key)]), lEq (.int .i64 (j : Nat)), lEq (.pointer (some ⟨ab, ao + j * 4, none⟩)), lEq (.agg #[.int .i64 y.table, .slice YA y.key.length YC, .bool y.gone, .slice YB y.val.length YD]), aElt Elt.wr (W) (Value.ownBlock (.slice ad xs.length ko)) (fun _ => False) (y) hrW hS, aRow Elt.wr 28 (W) (Value.ownBlock (.slice ad xs.length ko)) (fun _ => False) (y) hrW hS, lAny, lAny] (ApJ Elt.wr 28 (w5.heap.size) (w5.heap.size) (Value.ownBlock (.slice ad xs.length ko)) (W) (xs) [y]) ApJ.below (show Below (W).heap.size (W) (W) from Below.refl _ _)
            ⟨?o0, ?o1, ?o2, ?o3, ?o4, ?o5, ?o6, ?o7, ?o8, ?o9, ?o10, ?o11, trivial⟩ ?fin
          case o0 =>
            refine LnOp.side rfl (by kernel_rfl) (fun A va w' k hF hT hk hJ hb hu hp hd => ?_)
            have e1 : A.eval (.tmp 6) = .slice ad xs.length ko := (hT 6 11 (by simp) rfl).trans (hu 1 11 6 (hb 1 11 rfl (by kernel_rfl)) rfl rfl)
            exact BigFrame.wp_move _ rfl ⟨_, rfl, e1, Below.refl _ _⟩
          case o1 =>
            refine LnOp.side rfl (by kernel_rfl) (fun A va w' k hF hT hk hJ hb hu hp hd => ?_)
            have e1 : A.eval (.tmp 1) = .pointer (some ⟨w.heap.size, 0, none⟩) := hF 1 rfl
            exact wp_fieldN dlS rfl (e1) (by omega) ⟨_, rfl, rfl, Below.refl _ _⟩
          case o2 =>
            refine LnOp.side rfl (by kernel_rfl) (fun A va w' k hF hT hk hJ hb hu hp hd => ?_)
            have e1 : A.eval (.tmp 35) = .pointer (some ⟨w.heap.size, 0 + 0, none⟩) := (hT 35 1 (by simp) rfl).trans (hd ⟨1, .data⟩ (by simp) rfl rfl)
            have hJg : (W).grownBy w' (Value.ownBlock (.slice ad xs.length ko)) := ApJ.grown hJ
            exact wp_ld_slice (e := 28) rfl e1 (by kernel_rfl) ((bnW.other hJg hdr).cell (i := 0) rfl) ⟨_, rfl, rfl, Below.refl _ _⟩
          case o3 =>
            refine LnOp.side rfl (by kernel_rfl) (fun A va w' k hF hT hk hJ hb hu hp hd => ?_)
            have e1 : A.eval (.tmp 3) = .map (some mb) := hF 3 rfl
            exact BigFrame.wp_move _ rfl ⟨_, rfl, e1, Below.refl _ _⟩
          case o4 =>
            refine LnOp.side rfl (by kernel_rfl) (fun A va w' k hF hT hk hJ hb hu hp hd => ?_)
            have e1 : A.eval (.tmp 8) = .pointer (some ⟨w6.heap.size, 0, none⟩) := hF 8 rfl
            have hJg : (W).grownBy w' (Value.ownBlock (.slice ad xs.length ko)) := ApJ.grown hJ
            exact wp_load2 plS rfl e1 ((hXW.other hJg hxr).cell (i := 0) rfl) ((hXW.other hJg hxr).cell (i := 1) rfl) ⟨_, rfl, rfl, Below.refl _ _⟩
          case o5 =>
            refine LnOp.side rfl (by kernel_rfl) (fun A va w' k hF hT hk hJ hb hu hp hd => ?_)
            have e1 : A.eval (.tmp 37) = .map (some mb) := (hT 37 3 (by simp) rfl).trans (hd ⟨3, .data⟩ (by simp) rfl rfl)
            have e2 : A.eval (.tmp 38) = .agg #[.int .i64 y.table, .string (strOf y.key)] := (hT 38 4 (by simp) rfl).trans (hd ⟨4, .data⟩ (by simp) rfl rfl)
            have hJg : (W).grownBy w' (Value.ownBlock (.slice ad xs.length ko)) := ApJ.grown hJ
            exact wp_lookupI (hownW.kept hJg hmr) keyedP Try.underlying67 Try.underlying3 (by kernel_rfl) rfl e1 e2 hkey hat ⟨_, rfl, rfl, Below.refl _ _⟩
          case o6 =>
            refine LnOp.side rfl (by kernel_rfl) (fun A va w' k hF hT hk hJ hb hu hp hd => ?_)
            have e1 : A.eval (.tmp 36) = .slice (some ⟨ab, ao, none⟩) d.writes.length c := (hT 36 2 (by simp) rfl).trans (hd ⟨2, .data⟩ (by simp) rfl rfl)
            have e2 : A.eval (.tmp 39) = .int .i64 (j : Nat) := (hT 39 5 (by simp) rfl).trans (hd ⟨5, .data⟩ (by simp) rfl rfl)
            exact wp_ixN (e := 28) rfl (by kernel_rfl) (by kernel_rfl) (e1) (e2) rfl (by omega) ⟨_, rfl, rfl, Below.refl _ _⟩
          case o7 =>
            refine LnOp.side rfl (by kernel_rfl) (fun A va w' k hF hT hk hJ hb hu hp hd => ?_)
            have e1 : A.eval (.tmp 40) = .pointer (some ⟨ab, ao + j * 4, none⟩) := (hT 40 6 (by simp) rfl).trans (hd ⟨6, .data⟩ (by simp) rfl rfl)
            have hJg : (W).grownBy w' (Value.ownBlock (.slice ad xs.length ko)) := ApJ.grown hJ
            have hka : w'.heap[ab]? = W.heap[ab]? := hJg.block ab habW har
            exact wp_load4 wrS rfl e1 ((cell_keep hka _).trans y0) ((cell_keep hka _).trans y1) ((cell_keep hka _).trans y2) ((cell_keep hka _).trans y3) ⟨_, rfl, rfl, Below.refl _ _⟩
          case o8 =>
            refine LnOp.side rfl (by kernel_rfl) (fun A va w' k hF hT hk hJ hb hu hp hd => ?_)
            have e1 : A.eval (.tmp 41) = .agg #[.int .i64 y.table, .slice YA y.key.length YC, .bool y.gone, .slice YB y.val.length YD] := (hT 41 7 (by simp) rfl).trans (hd ⟨7, .data⟩ (by simp) rfl rfl)
            have hJg : (W).grownBy w' (Value.ownBlock (.slice ad xs.length ko)) := ApJ.grown hJ
            refine wp_callFn rfl eA (by simp only [List.map_toArray, List.map_cons, List.map_nil, e1]) ((dAlone_any w' (x := y) ⟨YA, YC, YB, YD, rfl, hyk.grownR hJg hrS, hyv.grownR hJg hrS, hyt⟩ (by omega) (by omega)).mono ?_)
            rintro e w2 ⟨v2, rfl, ⟨ka, kc, va2, vc, rfl, hk2, hv2, ht2⟩, hb2⟩
            exact ⟨_, rfl, _, rfl, ⟨wrC y _ _, rfl, _, _, rfl, hk2.weak (fun k hk => ⟨.inr (Nat.le_trans hJg.size hk.1), hk.2⟩), hv2.weak (fun k hk => ⟨.inr (Nat.le_trans hJg.size hk.1), hk.2⟩), ht2⟩, hb2⟩
          case o9 =>
            refine LnOp.side rfl (by kernel_rfl) (fun A va w' k hF hT hk hJ hb hu hp hd => ?_)
            have x1 : A.eval (.tmp 42) = va 8 := hT 42 8 (by simp) rfl
            have y1 := hd ⟨8, .data⟩ (by simp) rfl rfl
            obtain rfl : k = 0 := by have := hb 0 10 rfl (by kernel_rfl); omega
            have hJ0 : Below (W).heap.size (W) w' := hJ
            obtain ⟨us, eus, hR⟩ : ∃ us : List Value, (va 8).cells = us.toArray ∧ Elt.R Elt.wr (inNew (fun _ => False) (W) w') w' (y) us := y1
            exact wp_buildOne wrP rfl x1 eus (Elt.len _ hR) (by decide) (by decide) ⟨_, rfl, aRow.mk (hr := hrW) (hS := hS) hJ0.size hR, (Below.refl _ _).alloc (Nat.le_refl _) _⟩
          case o10 =>
            refine LnOp.line 0 rfl rfl (fun A va w' hF hT hJ hu hd => ?_)
            have e1 : A.eval (.tmp 34) = .slice ad xs.length ko := (hT 34 0 (by simp) rfl).trans (hd ⟨0, .data⟩ (by simp) rfl rfl)
            have x2 : A.eval (.tmp 43) = va 9 := hT 43 9 (by simp) rfl
            have y2 := hd ⟨9, .data⟩ (by simp) rfl rfl
            exact wp_apv (hr := hrW) (hS := hS) wrP hJ rfl e1 x2 hO rfl y2 (fun _ h => h.elim) hlo hlo (by omega) (fun v' V' h1 h2 => ⟨_, rfl, h1, h2⟩)
          case o11 =>
            refine LnOp.line 1 rfl rfl (fun A va w' hF hT hJ hu hd => ?_)
            have x1 : A.eval (.tmp 44) = va 10 := hT 44 10 (by simp) rfl
            have hJ' : ApJ Elt.wr 28 (w5.heap.size) (w5.heap.size) (Value.ownBlock (.slice ad xs.length ko)) (W) (xs) [y] [va 10, A.eval (.tmp 44)] w' := ⟨fun u hu => by obtain rfl := List.mem_singleton.1 hu; exact x1, hJ.2⟩
            exact BigFrame.wp_assign _ rfl ⟨_, rfl, hJ', grownB (Below.refl _ _) _⟩
          case fin =>
            intro vs1 W9 hJ hG
            obtain ⟨hsame, hg9, ad9, c9, e9, hO9⟩ := hJ
            have ea := hsame _ (List.mem_singleton.2 rfl)
            obtain ⟨L9, hL9⟩ : ∃ L9, L9 = (xs ++ [y]).length := ⟨_, rfl⟩
            rw [← hL9] at e9 hO9
            replace hL9 := Lib.hid hL9
            have g0 : vs1 0 = .slice ad xs.length ko := hG 0 (by decide) rfl
            have g1 : vs1 1 = .pointer (some ⟨w.heap.size, 0 + 0, none⟩) := hG 1 (by decide) rfl
            have g2 : vs1 2 = .slice (some ⟨ab, ao, none⟩) d.writes.length c := hG 2 (by decide) rfl
            have g3 : vs1 3 = .map (some mb) := hG 3 (by decide) rfl
            have g4 : vs1 4 = .agg #[.int .i64 y.table, .string (strOf y.key)] := hG 4 (by decide) rfl
            have g5 : vs1 5 = .int .i64 (j : Nat) := hG 5 (by decide) rfl
            have g6 : vs1 6 = .pointer (some ⟨ab, ao + j * 4, none⟩) := hG 6 (by decide) rfl
            have g7 : vs1 7 = .agg #[.int .i64 y.table, .slice YA y.key.length YC, .bool y.gone, .slice YB y.val.length YD] := hG 7 (by decide) rfl
            clear hG hsame
            simp only [putAll, ea, e9, g0, g1, g2, g3, g4, g5, g6, g7]
            clear ea e9 g0 g1 g2 g3 g4 g5 g6 g7
            go_simp
            have q9 : Below w5.heap.size w5 W9 := q7.grown hg9 q7.size fun k hk => (hrr k hk).1
            clear hXW hO hyk hyv hg9 bnW hownW
            go_wp2_with fail
            go_roundw
            case rel =>
              have e := hL9.out
              rw [← hsn.out] at e hO9
              subst e
              exact ⟨k + 1, ad9, c9, by go_num, by omega, rfl, hO9, q9⟩
            case measure => simp [intOf]; omega
        · have hk5 : k = n5 := by omega
          have hkL := hn5'.out
          rw [List.take_of_length_le (by omega)] at hO
          rw [List.take_of_length_le (by omega)]
          go_wp2_with fail
          go_ret
          rw [WsEnd, HK.out]
          have h5w := q5.size
          exact ⟨_, _, rfl, hO.to h5w h5w, q5.trans (q6.mono q5.size)⟩
end Go.Proofs.Ytjbdkhddnblieaa
namespace Go.Proofs.Ytjbdkhddnblieaa
open Go.RowKit Go.Shelf
theorem compare_quiet {w : World} {n : Nat} {S S2 : Nat → Prop} {a a2 : Option Addr} {k c k2 c2 : Nat} {xs ys : List UInt8} (hx : RdS S w (.slice a k c) xs) (hy : RdS S2 w (.slice a2 k2 c2) ys) :
    Calls Try.prog 57 #[.slice a k c, .slice a2 k2 c2] (w.drewN n) fun e w'' => e = .returned (.int .i64 (Lib.compareBytes xs ys)) ∧ ∃ m, w'' = w.drewN m :=
  (compare_any (w.drewN n) (hx.keep fun _ _ => rfl) (hy.keep fun _ _ => rfl)).mono fun _ _ h => ⟨h.1, n, h.2.symm⟩
theorem srtQ_iff {l : List Pq} : SrtQ l ↔ ∀ j (h : j + 1 < l.length), ltB (l[j]'(by omega)).key (l[j + 1]'h).key = true := by
  constructor
  · intro h j hj
    exact srtE_get h (Nat.lt_succ_self j) hj
  · intro h
    refine List.pairwise_iff_getElem.2 fun i j hi hj hij => ?_
    induction j with
    | zero => omega
    | succ j ih =>
      by_cases e : i = j
      · subst e; exact h i hj
      · exact totB.tr (ih (by omega) (by omega)) (h j hj)
set_option maxRecDepth 100000 in
set_option maxHeartbeats 4000000 in
theorem rise_any (w : World) {S : Nat → Prop} {a : Option Addr} {n c : Nat} {l : List Pq} (hl : RdL Elt.pq S w (.slice a n c) l) :
    Calls Try.prog 44 #[.slice a n c] w fun e w' => e = .returned (.bool (decide (SrtQ l))) ∧ Below w.heap.size w w' := by
  obtain ⟨rfl, hnc, hcm⟩ := hl.len
  have hlm : l.length ≤ 9223372036854775807 := by unfold maxLen at hcm; omega
  have q := Below.refl w.heap.size w
  go_enter Try.func44, Try.ntmps44
  go_upto_region 2 with (fail)
  go_loopw [3] (fun iv wr => ∃ j : Nat, iv = .int .i64 ((j : Int) + 1) ∧ (j < l.length ∨ j = 0) ∧ RowKit.Hid (∀ i (h : i + 1 < l.length), i < j → ltB (l[i]'(by omega)).key (l[i + 1]'h).key = true) ∧ Below w.heap.size w wr) (fun i _ => l.length + 1 - (intOf i).toNat)
  case atStart => exact ⟨0, rfl, .inr rfl, Lib.hid (fun i _ h => absurd h (Nat.not_lt_zero _)), q⟩
  case round =>
    clear q
    obtain ⟨j, rfl, hjl, hno, q⟩ := hrel
    rcases Nat.lt_or_ge (j + 1) l.length with hlt | hge
    · have d1 : decide ((j : Int) + 1 < (l.length : Int)) = true := decide_eq_true (by omega)
      have d0 : ((j : Int) + 1 < (l.length : Int)) = True := eq_true (by omega)
      obtain ⟨b, off, A, C, A2, C2, rfl, hb, c0, c1, hk1, hk2⟩ := (hl.below q).pq j (by omega)
      obtain ⟨b', off', A', C', A2', C2', ee, hb', c0', c1', hk1', hk2'⟩ := (hl.below q).pq (j + 1) hlt
      obtain ⟨rfl, rfl⟩ : b = b' ∧ off = off' := by simpa using ee
      have hj9 : (j : Int) ≤ 9223372036854775806 := by omega
      have w0 : IntKind.i64.wrap (j : Int) = (j : Int) := by rw [IntKind.wrap_i64]; omega
      have ec := Lib.hid (cmp_ge (l[j]'(by omega)).key (l[j + 1]'hlt).key)
      obtain ⟨k1, hk10⟩ : ∃ k1, k1 = (l[j]'(by omega)).key := ⟨_, rfl⟩
      obtain ⟨k2, hk20⟩ : ∃ k2, k2 = (l[j + 1]'hlt).key := ⟨_, rfl⟩
      have ej : ((j + 1 : Nat) : Int) = (j : Int) + 1 := by omega
      rw [← hk10] at c0 hk1 ec
      rw [← hk20] at c0' hk1' ec
      have hnn : (0 : Int) ≤ (j : Int) + 1 := by omega
      have hj0 : j < l.length := by omega
      clear c1 c1' hk2 hk2' ej ee hb hb'
      cases h3 : ltB k1 k2 with
      | true =>
        have d3 : decide (0 ≤ Lib.compareBytes k1 k2) = false := by rw [ec.out, h3]; rfl
        have H := Lib.hid (show ∀ i (h : i + 1 < l.length), i < j + 1 → ltB (l[i]'(by omega)).key (l[i + 1]'h).key = true from fun i h hi => by
          by_cases e : i = j
          · subst e; rw [← hk10, ← hk20]; exact h3
          · exact hno.out i h (by omega))
        clear h3 hno ec hk10 hk20 hjl
        go_upto_region 4 with (fail)
        go_quiet (exact compare_quiet hk1 hk1')
        go_wp2_with fail
        go_roundw
        case rel => exact ⟨j + 1, by go_num, .inl hlt, H, Go.Proofs.Ytjbdkhddnblieaa.Below.drewN q _⟩
        case measure => simp [intOf]; omega
      | false =>
        have d3 : decide (0 ≤ Lib.compareBytes k1 k2) = true := by rw [ec.out, h3]; rfl
        have H := Lib.hid (show decide (SrtQ l) = false from decide_eq_false fun h => by
          have := srtQ_iff.1 h j hlt
          rw [← hk10, ← hk20, h3] at this
          cases this)
        clear h3 hno ec hk10 hk20 hjl
        go_upto_region 4 with (fail)
        go_quiet (exact compare_quiet hk1 hk1')
        go_wp2_with fail
        go_ret
        exact ⟨by rw [H.out]; rfl, Go.Proofs.Ytjbdkhddnblieaa.Below.drewN q _⟩
    · have d1 : decide ((j : Int) + 1 < (l.length : Int)) = false := decide_eq_false (by omega)
      have d0 : ((j : Int) + 1 < (l.length : Int)) = False := eq_false (by omega)
      have H := Lib.hid (show decide (SrtQ l) = true from decide_eq_true (srtQ_iff.2 fun i h => hno.out i h (by omega)))
      clear hge hjl hno
      go_wp2_with fail
      go_ret
      exact ⟨by rw [H.out]; rfl, q⟩
set_option maxRecDepth 100000 in
set_option maxHeartbeats 4000000 in
theorem in_any (w : World) {S S2 : Nat → Prop} {p v : Value} {u : Wr} {x : Sp} (hu : RdWr S w p u) (hx : RdSp S2 w v x) :
    Calls Try.prog 45 #[p, v] w fun e w' => e = .returned (.bool (decide (u.table = x.table) && inS x u.key)) ∧ Below w.heap.size w w' := by
  obtain ⟨a, c, a2, c2, rfl, hk, hv, ht⟩ := hu
  obtain ⟨a', c', a2', c2', rfl, hl, hh, ht'⟩ := hx
  obtain ⟨W, hW, q, bn, bm, hsz⟩ := boxes2 w 28 39 [.int .i64 u.table, .slice a u.key.length c, .bool u.gone, .slice a2 u.val.length c2] [.int .i64 x.table, .slice a' x.lo.length c', .slice a2' x.hi.length c2', .bool x.isOpen]
  clear hsz
  go_enter Try.func45, Try.ntmps45
  go_upto_region 1 with (fail)
  rw [show (w.alloc (.cells #[.int .i64 u.table, .slice a u.key.length c, .bool u.gone, .slice a2 u.val.length c2] 28)).alloc (.cells #[.int .i64 x.table, .slice a' x.lo.length c', .slice a2' x.hi.length c2', .bool x.isOpen] 39) = W from hW.symm]
  clear hW
  have b0 := bn.cell (i := 0) rfl
  have b1 := bn.cell (i := 1) rfl
  have f0 := bm.cell (i := 0) rfl
  have f1 := bm.cell (i := 1) rfl
  have f2 := bm.cell (i := 2) rfl
  have f3 := bm.cell (i := 3) rfl
  have r1 := hk.below q
  have r2 := hl.below q
  have r3 := hh.below q
  by_cases h1 : u.table = x.table
  · have d1 : (u.table == x.table) = true := beq_iff_eq.2 h1
    have d12 : decide (u.table = x.table) = true := decide_eq_true h1
    have d13 : (u.table = x.table) = True := eq_true h1
    have e2 := Lib.hid (cmp_ge u.key x.lo)
    have e3 := Lib.hid (cmp_lt u.key x.hi)
    cases h2 : ltB u.key x.lo with
    | true =>
      have d2 : decide (0 ≤ Lib.compareBytes u.key x.lo) = false := by rw [e2.out, h2]; rfl
      have H := Lib.hid (show (decide (u.table = x.table) && inS x u.key) = false by unfold inS; simp [h2])
      clear h1 h2
      go_wp2_with fail
      refine (compare_any _ r1 r2).mono ?_
      rintro e w1 ⟨rfl, rfl⟩
      go_wp2_with fail
      go_ret
      exact ⟨by rw [H.out]; rfl, q⟩
    | false =>
      have d2 : decide (0 ≤ Lib.compareBytes u.key x.lo) = true := by rw [e2.out, h2]; rfl
      cases h3 : x.isOpen with
      | true =>
        rw [h3] at f3
        have H := Lib.hid (show (decide (u.table = x.table) && inS x u.key) = true by unfold inS; simp [h1, h2, h3])
        clear h1 h2 h3
        go_wp2_with fail
        refine (compare_any _ r1 r2).mono ?_
        rintro e w1 ⟨rfl, rfl⟩
        go_wp2_with fail
        go_ret
        exact ⟨by rw [H.out]; rfl, q⟩
      | false =>
        rw [h3] at f3
        cases h4 : ltB u.key x.hi with
        | true =>
          have d4 : decide (Lib.compareBytes u.key x.hi < 0) = true := by rw [e3.out, h4]
          have H := Lib.hid (show (decide (u.table = x.table) && inS x u.key) = true by unfold inS; simp [h1, h2, h3, h4])
          clear h1 h2 h3 h4
          go_wp2_with fail
          refine (compare_any _ r1 r2).mono ?_
          rintro e w1 ⟨rfl, rfl⟩
          go_wp2_with fail
          refine (compare_any _ r1 r3).mono ?_
          rintro e w2 ⟨rfl, rfl⟩
          go_wp2_with fail
          go_ret
          exact ⟨by rw [H.out]; rfl, q⟩
        | false =>
          have d4 : decide (Lib.compareBytes u.key x.hi < 0) = false := by rw [e3.out, h4]
          have H := Lib.hid (show (decide (u.table = x.table) && inS x u.key) = false by unfold inS; simp [h2, h3, h4])
          clear h1 h2 h3 h4
          go_wp2_with fail
          refine (compare_any _ r1 r2).mono ?_
          rintro e w1 ⟨rfl, rfl⟩
          go_wp2_with fail
          refine (compare_any _ r1 r3).mono ?_
          rintro e w2 ⟨rfl, rfl⟩
          go_wp2_with fail
          go_ret
          exact ⟨by rw [H.out]; rfl, q⟩
  · have d1 : (u.table == x.table) = false := beq_eq_false_iff_ne.2 h1
    have d12 : decide (u.table = x.table) = false := decide_eq_false h1
    have H := Lib.hid (show (decide (u.table = x.table) && inS x u.key) = false by unfold inS; simp [h1])
    clear h1
    go_wp2_with fail
    go_ret
    exact ⟨by rw [H.out]; rfl, q⟩
end Go.Proofs.Ytjbdkhddnblieaa
namespace Go.Proofs.Ytjbdkhddnblieaa
open Go.RowKit Go.Shelf
def smQ (l : List Pq) : Prop := l.length ≤ 1000000 ∧ ∀ x ∈ l, x.key.length ≤ 1000000 ∧ x.val.length ≤ 1000000
def PqEnd (w : World) (l : List Pq) (e : Ending) (w' : World) : Prop := ∃ a c, e = .returned (.slice a l.length c) ∧ OwnL Elt.pq 53 w.heap.size w.heap.size w' (.slice a l.length c) l ∧ Below w.heap.size w w'
set_option maxRecDepth 100000 in
set_option maxHeartbeats 4000000 in
theorem dPairs_any (w : World) {S : Nat → Prop} {a : Option Addr} {n c : Nat} {l : List Pq} (hl : RdL Elt.pq S w (.slice a n c) l) (hs : smQ l) : Calls Try.prog 43 #[.slice a n c] w (PqEnd w l) := by
  obtain ⟨rfl, hnc, hcm⟩ := hl.len
  obtain ⟨hs1, hs2⟩ := hs
  replace hl := hl.fit
  have eC : ∀ args w, (callFunc 48 args).run Try.prog w = .ok (.enter 48 args) w := enters_of Try.func48 (by kernel_rfl) rfl
  have q := Below.refl w.heap.size w
  go_enter Try.func43, Try.ntmps43
  go_upto_region 3 with (fail)
  go_loopw [3, 8] (fun ov iv wr => ∃ (k : Nat) (ad : Option Addr) (ko : Nat), iv = .int .i64 k ∧ k ≤ l.length ∧ ov = .slice ad (l.take k).length ko ∧ OwnL Elt.pq 53 w.heap.size w.heap.size wr (.slice ad (l.take k).length ko) (l.take k) ∧ Below w.heap.size w wr)
    (fun _ i _ => l.length - (intOf i).toNat)
  case atStart => exact ⟨0, none, 0, rfl, Nat.zero_le _, rfl, OwnL.nil _ _ _ _ _, q⟩
  case round =>
    clear q
    obtain ⟨k, ad, ko, rfl, hkl, rfl, hO, q⟩ := hrel
    rcases Nat.lt_or_ge k l.length with hlt | hge
    · obtain ⟨b, off, KA, KC, VA, VC, rfl, hb, c0, c1, hk1, hk2⟩ := (hl.below q).pq k hlt
      obtain ⟨hx1, hx2⟩ := hs2 _ (List.getElem_mem hlt)
      have hsn := Lib.hid (show l.take (k + 1) = l.take k ++ [l[k]] from List.take_succ_eq_append_getElem hlt)
      obtain ⟨x, ex⟩ : ∃ x, x = l[k] := ⟨_, rfl⟩
      obtain ⟨xs, exs⟩ : ∃ xs, xs = l.take k := ⟨_, rfl⟩
      have hxl : xs.length ≤ 1000000 := by rw [exs, List.length_take]; omega
      rw [← ex] at c0 c1 hk1 hk2 hx1 hx2 hsn
      rw [← exs] at hO hsn
      rw [← exs]
      clear ex exs
      go_upto_region 5 with (first | (refine wpList_boxNew (vs := [.slice none 0 0, .slice none 0 0]) (by kernel_rfl) rfl rfl ?_; intro wa hba hBa) | (refine wpList_boxStore (us := [.slice KA x.key.length KC, .slice VA x.val.length VC]) (by kernel_rfl) rfl rfl rfl rfl rfl rfl hBa rfl ?_; intro W hgw hXW) | fail)
      go_simp
      have hbw : Below wr.heap.size wr W := hba.grown hgw hba.size fun k hk => by injection hk with hk; omega
      have qW := q.trans (hbw.mono q.size)
      have hrr : ∀ k, Value.ownBlock (.slice ad xs.length ko) = some k → w.heap.size ≤ k ∧ k < wr.heap.size := fun k hk => hO.block_lt k hk
      have hzw := hbw.size
      have hrW : ∀ k, Value.ownBlock (.slice ad xs.length ko) = some k → k < W.heap.size := fun k hk => by have := hrr k hk; omega
      have hS : ∀ k, (fun _ => False) k → some k ≠ Value.ownBlock (.slice ad xs.length ko) := fun _ h => h.elim
      have hrS : ∀ k, Value.ownBlock (.slice ad xs.length ko) = some k → ¬ (S k ∧ k < w.heap.size) := fun k hk h2 => by have := hrr k hk; omega
      have hxr : Value.ownBlock (.slice ad xs.length ko) ≠ some wr.heap.size := fun e => by have := hrr _ e; omega
      replace hO := hO.below hbw
      replace hk1 := hk1.below hbw
      replace hk2 := hk2.below hbw
      have hlo : w.heap.size ≤ W.heap.size := qW.size
      clear c0 c1 hba hBa hgw hbw q hzw
      refine wp_region_lnl (K := fun A B => A.grownBy B (Value.ownBlock (.slice ad xs.length ko))) (by kernel_rfl) (by kernel_rfl) [9, 10] (by kernel_rfl) [lEq (.slice ad xs.length ko), lEq (.pointer (some ⟨wr.heap.size, 0 + 0, none⟩)), lEq (.slice KA x.key.length KC), aRd (W) (Value.ownBlock (.slice ad xs.length ko)) (fun _ => False) (x.key) hrW hS, lEq (.pointer (some ⟨wr.heap.size, 0 + 1, none⟩)), lEq (.slice VA x.val.length VC), aRd (W) (Value.ownBlock (.slice ad xs.length ko)) (fun _ => False) (x.val) hrW hS, aElt Elt.pq (W) (Value.ownBlock (.slice ad xs.length ko)) (fun _ => False) (x) hrW hS, aRow Elt.pq 53 (W) (Value.ownBlock (.slice ad xs.length ko)) (fun _ => False) (x) hrW hS, lAny, lAny] (ApJ Elt.pq 53 (w.heap.size) (w.heap.size) (Value.ownBlock (.slice ad xs.length ko)) (W) (xs) [x]) ApJ.below (show Below (W).heap.size (W) (W) from Below.refl _ _)
        ⟨?o0, ?o1, ?o2, ?o3, ?o4, ?o5, ?o6, ?o7, ?o8, ?o9, ?o10, trivial⟩ ?fin
      case o0 =>
        refine LnOp.side rfl (by kernel_rfl) (fun A va w' k hF hT hk hJ hb hu hp hd => ?_)
        have e1 : A.eval (.tmp 3) = .slice ad xs.length ko := (hT 3 10 (by simp) rfl).trans (hu 1 10 3 (hb 1 10 rfl (by kernel_rfl)) rfl rfl)
        exact BigFrame.wp_move _ rfl ⟨_, rfl, e1, Below.refl _ _⟩
      case o1 =>
        refine LnOp.side rfl (by kernel_rfl) (fun A va w' k hF hT hk hJ hb hu hp hd => ?_)
        have e1 : A.eval (.tmp 5) = .pointer (some ⟨wr.heap.size, 0, none⟩) := hF 5 rfl
        exact wp_fieldN pqS rfl (e1) (by omega) ⟨_, rfl, rfl, Below.refl _ _⟩
      case o2 =>
        refine LnOp.side rfl (by kernel_rfl) (fun A va w' k hF hT hk hJ hb hu hp hd => ?_)
        have e1 : A.eval (.tmp 13) = .pointer (some ⟨wr.heap.size, 0 + 0, none⟩) := (hT 13 1 (by simp) rfl).trans (hd ⟨1, .data⟩ (by simp) rfl rfl)
        have hJg : (W).grownBy w' (Value.ownBlock (.slice ad xs.length ko)) := ApJ.grown hJ
        exact wp_ld_slice (e := 5) rfl e1 (by kernel_rfl) ((hXW.other hJg hxr).cell (i := 0) rfl) ⟨_, rfl, rfl, Below.refl _ _⟩
      case o3 =>
        refine LnOp.side rfl (by kernel_rfl) (fun A va w' k hF hT hk hJ hb hu hp hd => ?_)
        have e1 : A.eval (.tmp 14) = .slice KA x.key.length KC := (hT 14 2 (by simp) rfl).trans (hd ⟨2, .data⟩ (by simp) rfl rfl)
        have hJg : (W).grownBy w' (Value.ownBlock (.slice ad xs.length ko)) := ApJ.grown hJ
        refine wp_callFn rfl eC (by simp only [List.map_toArray, List.map_cons, List.map_nil, e1]) ((clone_any w' (hk1.grownR hJg hrS).rd (Nat.le_refl _) hx1).mono ?_)
        rintro e w2 ⟨ad', k', c', rfl, hf⟩
        exact ⟨_, rfl, _, rfl, hf.2.rdS.weak (fun k hk => ⟨.inr (Nat.le_trans hJg.size hk.1), hk.2⟩), hf.1⟩
      case o4 =>
        refine LnOp.side rfl (by kernel_rfl) (fun A va w' k hF hT hk hJ hb hu hp hd => ?_)
        have e1 : A.eval (.tmp 5) = .pointer (some ⟨wr.heap.size, 0, none⟩) := hF 5 rfl
        exact wp_fieldN pqS rfl (e1) (by omega) ⟨_, rfl, rfl, Below.refl _ _⟩
      case o5 =>
        refine LnOp.side rfl (by kernel_rfl) (fun A va w' k hF hT hk hJ hb hu hp hd => ?_)
        have e1 : A.eval (.tmp 16) = .pointer (some ⟨wr.heap.size, 0 + 1, none⟩) := (hT 16 4 (by simp) rfl).trans (hd ⟨4, .data⟩ (by simp) rfl rfl)
        have hJg : (W).grownBy w' (Value.ownBlock (.slice ad xs.length ko)) := ApJ.grown hJ
        exact wp_ld_slice (e := 5) rfl e1 (by kernel_rfl) ((hXW.other hJg hxr).cell (i := 1) rfl) ⟨_, rfl, rfl, Below.refl _ _⟩
      case o6 =>
        refine LnOp.side rfl (by kernel_rfl) (fun A va w' k hF hT hk hJ hb hu hp hd => ?_)
        have e1 : A.eval (.tmp 17) = .slice VA x.val.length VC := (hT 17 5 (by simp) rfl).trans (hd ⟨5, .data⟩ (by simp) rfl rfl)
        have hJg : (W).grownBy w' (Value.ownBlock (.slice ad xs.length ko)) := ApJ.grown hJ
        refine wp_callFn rfl eC (by simp only [List.map_toArray, List.map_cons, List.map_nil, e1]) ((clone_any w' (hk2.grownR hJg hrS).rd (Nat.le_refl _) hx2).mono ?_)
        rintro e w2 ⟨ad', k', c', rfl, hf⟩
        exact ⟨_, rfl, _, rfl, hf.2.rdS.weak (fun k hk => ⟨.inr (Nat.le_trans hJg.size hk.1), hk.2⟩), hf.1⟩
      case o7 =>
        refine LnOp.side rfl (by kernel_rfl) (fun A va w' k hF hT hk hJ hb hu hp hd => ?_)
        have x1 : A.eval (.tmp 15) = va 3 := hT 15 3 (by simp) rfl
        have y1 := hd ⟨3, .data⟩ (by simp) rfl rfl
        have x2 : A.eval (.tmp 18) = va 6 := hT 18 6 (by simp) rfl
        have y2 := hd ⟨6, .data⟩ (by simp) rfl rfl
        have z1 : RdS (inNew (fun _ => False) (W) w') w' (va 3) (x.key) := y1
        have z2 : RdS (inNew (fun _ => False) (W) w') w' (va 6) (x.val) := y2
        obtain ⟨A1, C1, q1, _, _⟩ := z1.shape
        obtain ⟨A2, C2, q2, _, _⟩ := z2.shape
        exact wp_build2 pqS rfl (x1.trans q1) (x2.trans q2) rfl rfl ⟨_, rfl, ⟨_, rfl, _, _, rfl, q1 ▸ z1, q2 ▸ z2⟩, Below.refl _ _⟩
      case o8 =>
        refine LnOp.side rfl (by kernel_rfl) (fun A va w' k hF hT hk hJ hb hu hp hd => ?_)
        have x1 : A.eval (.tmp 19) = va 7 := hT 19 7 (by simp) rfl
        have y1 := hd ⟨7, .data⟩ (by simp) rfl rfl
        obtain rfl : k = 0 := by have := hb 0 9 rfl (by kernel_rfl); omega
        have hJ0 : Below (W).heap.size (W) w' := hJ
        obtain ⟨us, eus, hR⟩ : ∃ us : List Value, (va 7).cells = us.toArray ∧ Elt.R Elt.pq (inNew (fun _ => False) (W) w') w' (x) us := y1
        exact wp_buildOne pqP rfl x1 eus (Elt.len _ hR) (by decide) (by decide) ⟨_, rfl, aRow.mk (hr := hrW) (hS := hS) hJ0.size hR, (Below.refl _ _).alloc (Nat.le_refl _) _⟩
      case o9 =>
        refine LnOp.line 0 rfl rfl (fun A va w' hF hT hJ hu hd => ?_)
        have e1 : A.eval (.tmp 12) = .slice ad xs.length ko := (hT 12 0 (by simp) rfl).trans (hd ⟨0, .data⟩ (by simp) rfl rfl)
        have x2 : A.eval (.tmp 20) = va 8 := hT 20 8 (by simp) rfl
        have y2 := hd ⟨8, .data⟩ (by simp) rfl rfl
        exact wp_apv (hr := hrW) (hS := hS) pqP hJ rfl e1 x2 hO rfl y2 (fun _ h => h.elim) hlo hlo (by omega) (fun v' V' h1 h2 => ⟨_, rfl, h1, h2⟩)
      case o10 =>
        refine LnOp.line 1 rfl rfl (fun A va w' hF hT hJ hu hd => ?_)
        have x1 : A.eval (.tmp 21) = va 9 := hT 21 9 (by simp) rfl
        have hJ' : ApJ Elt.pq 53 (w.heap.size) (w.heap.size) (Value.ownBlock (.slice ad xs.length ko)) (W) (xs) [x] [va 9, A.eval (.tmp 21)] w' := ⟨fun u hu => by obtain rfl := List.mem_singleton.1 hu; exact x1, hJ.2⟩
        exact BigFrame.wp_assign _ rfl ⟨_, rfl, hJ', grownB (Below.refl _ _) _⟩
      case fin =>
        intro vs1 W9 hJ hG
        obtain ⟨hsame, hg9, ad9, c9, e9, hO9⟩ := hJ
        have ea := hsame _ (List.mem_singleton.2 rfl)
        obtain ⟨L9, hL9⟩ : ∃ L9, L9 = (xs ++ [x]).length := ⟨_, rfl⟩
        rw [← hL9] at e9 hO9
        replace hL9 := Lib.hid hL9
        have g0 : vs1 0 = .slice ad xs.length ko := hG 0 (by decide) rfl
        have g1 : vs1 1 = .pointer (some ⟨wr.heap.size, 0 + 0, none⟩) := hG 1 (by decide) rfl
        have g2 : vs1 2 = .slice KA x.key.length KC := hG 2 (by decide) rfl
        have g4 : vs1 4 = .pointer (some ⟨wr.heap.size, 0 + 1, none⟩) := hG 4 (by decide) rfl
        have g5 : vs1 5 = .slice VA x.val.length VC := hG 5 (by decide) rfl
        clear hG hsame
        simp only [putAll, ea, e9, g0, g1, g2, g4, g5]
        clear ea e9 g0 g1 g2 g4 g5
        go_simp
        have q9 : Below w.heap.size w W9 := qW.grown hg9 qW.size fun k hk => (hrr k hk).1
        clear hXW hO hk1 hk2 hg9
        go_wp2_with fail
        go_roundw
        case rel =>
          have e := hL9.out
          rw [← hsn.out] at e hO9
          subst e
          exact ⟨k + 1, ad9, c9, by go_num, by omega, rfl, hO9, q9⟩
        case measure => simp [intOf]; omega
    · obtain rfl : k = l.length := by omega
      rw [List.take_length] at hO
      rw [List.take_length]
      go_wp2_with fail
      go_ret
      exact ⟨_, _, rfl, hO, q⟩
end Go.Proofs.Ytjbdkhddnblieaa
namespace Go.Proofs.Ytjbdkhddnblieaa
open Go.RowKit Go.Shelf
set_option maxRecDepth 100000 in
set_option maxHeartbeats 4000000 in
theorem refIn_any (w : World) {S S2 : Nat → Prop} {v : Value} {x : Sp} {A : Option Addr} {n C : Nat} {k : List UInt8} (h : RdSp S w v x) (hk : RdS S2 w (.slice A n C) k) :
    Calls Try.prog 28 #[v, .slice A n C] w fun e w' => e = .returned (.bool (inS x k)) ∧ Below w.heap.size w w' := by
  obtain ⟨a, c, a2, c2, rfl, hl, hh, ht⟩ := h
  obtain ⟨W, hW⟩ : ∃ W, W = w.alloc (.cells #[.int .i64 x.table, .slice a x.lo.length c, .slice a2 x.hi.length c2, .bool x.isOpen] 39) := ⟨_, rfl⟩
  have q : Below w.heap.size w W := by rw [hW]; exact (Below.refl _ _).alloc (Nat.le_refl _) _
  have bn : BoxN W w.heap.size 39 [.int .i64 x.table, .slice a x.lo.length c, .slice a2 x.hi.length c2, .bool x.isOpen] := by rw [hW]; exact BoxN.new _ _ _
  go_enter Try.func28, Try.ntmps28
  go_upto_region 1 with (fail)
  rw [← hW]
  clear hW
  have b1 := bn.cell (i := 1) rfl
  have b2 := bn.cell (i := 2) rfl
  have b3 := bn.cell (i := 3) rfl
  have r1 := (hk.below q).rd
  have r2 := (hl.below q).rd
  have r3 := (hh.below q).rd
  cases h1 : ltB k x.lo with
  | true =>
    have d1 : Op.bytesLess (strOf k).toList (strOf x.lo).toList = true := str_ltD.trans h1
    have d0 : (!Op.bytesLess (strOf k).toList (strOf x.lo).toList) = false := by rw [d1]; rfl
    have H := Lib.hid (show inS x k = false by unfold inS; simp [h1])
    clear h1
    go_wp2_with (first | (refine wpList_conv (x := .tmp 5) byP rfl rfl rfl r1 ?_) | (refine wpList_conv (x := .tmp 8) byP rfl rfl rfl r2 ?_; go_wp2_with fail) | fail)
    go_ret
    exact ⟨by rw [H.out]; rfl, q⟩
  | false =>
    have d1 : Op.bytesLess (strOf k).toList (strOf x.lo).toList = false := str_ltD.trans h1
    have d0 : (!Op.bytesLess (strOf k).toList (strOf x.lo).toList) = true := by rw [d1]; rfl
    cases h2 : x.isOpen with
    | true =>
      rw [h2] at b3
      have H := Lib.hid (show inS x k = true by unfold inS; simp [h1, h2])
      clear h1 h2
      go_wp2_with (first | (refine wpList_conv (x := .tmp 5) byP rfl rfl rfl r1 ?_) | (refine wpList_conv (x := .tmp 8) byP rfl rfl rfl r2 ?_; go_wp2_with fail) | fail)
      go_ret
      exact ⟨by rw [H.out]; rfl, q⟩
    | false =>
      rw [h2] at b3
      cases h3 : ltB k x.hi with
      | true =>
        have d3 : Op.bytesLess (strOf k).toList (strOf x.hi).toList = true := str_ltD.trans h3
        have H := Lib.hid (show inS x k = true by unfold inS; simp [h1, h2, h3])
        clear h1 h2 h3
        go_wp2_with (first | (refine wpList_conv (x := .tmp 5) byP rfl rfl rfl r1 ?_) | (refine wpList_conv (x := .tmp 8) byP rfl rfl rfl r2 ?_) | (refine wpList_conv (x := .tmp 15) byP rfl rfl rfl r1 ?_) | (refine wpList_conv (x := .tmp 18) byP rfl rfl rfl r3 ?_) | fail)
        go_ret
        exact ⟨by rw [H.out]; rfl, q⟩
      | false =>
        have d3 : Op.bytesLess (strOf k).toList (strOf x.hi).toList = false := str_ltD.trans h3
        have H := Lib.hid (show inS x k = false by unfold inS; simp [h1, h2, h3])
        clear h1 h2 h3
        go_wp2_with (first | (refine wpList_conv (x := .tmp 5) byP rfl rfl rfl r1 ?_) | (refine wpList_conv (x := .tmp 8) byP rfl rfl rfl r2 ?_) | (refine wpList_conv (x := .tmp 15) byP rfl rfl rfl r1 ?_) | (refine wpList_conv (x := .tmp 18) byP rfl rfl rfl r3 ?_) | fail)
        go_ret
        exact ⟨by rw [H.out]; rfl, q⟩
end Go.Proofs.Ytjbdkhddnblieaa
