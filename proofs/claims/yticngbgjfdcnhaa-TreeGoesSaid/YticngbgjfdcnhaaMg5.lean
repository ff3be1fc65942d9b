/-
  TEXTS OF ONE PROOF, merged: SlI, SlD, SlC.
-/
import Derived.Laws.Externs
import Derived.Test.YticngbgjfdcnhaaMg4
namespace Go.Proofs.Yticngbgjfdcnhaa
open Go.RowKit
def RetRow (Te : TypeId) (sz : Nat) (w : World) (v : Value) (n' : Nat) (vs' : List Value) (e : Ending) (w' : World) : Prop := ∃ v', e = .returned v' ∧ RowTo Te sz w v n' vs' v' w'
theorem new_cells {w : World} {b : Nat} {us : List Value} {t : TypeId} (hb : w.heap[b]? = some (.cells us.toArray t (0, 0))) (j : Nat) (u : Value) (h : us[j]? = some u) : w.cell? (Addr.add ⟨b, 0, none⟩ j) = some u := by
  simp [Addr.add_lit, World.cell?, hb, h]
theorem ins_cells {cur us : List Value} {p q r : Nat} (h1 : p ≤ q) (h2 : us.length = r) (h3 : q + r ≤ cur.length) :
    ((cur.take (p + r) ++ (cur.take q).drop p ++ cur.drop (p + r + ((cur.take q).drop p).length)).take p ++ us ++ (cur.take (p + r) ++ (cur.take q).drop p ++ cur.drop (p + r + ((cur.take q).drop p).length)).drop (p + us.length)).take (q + r) = (cur.take q).take p ++ us ++ (cur.take q).drop p := by
  have e0 : ((cur.take q).drop p).length = q - p := by rw [List.length_drop, List.length_take]; omega
  have e1 : (cur.take (p + r) ++ (cur.take q).drop p ++ cur.drop (p + r + ((cur.take q).drop p).length)).take p = (cur.take q).take p := by
    rw [List.append_assoc, List.take_append_of_le_length (by rw [List.length_take]; omega), List.take_take, List.take_take]
    congr 1; omega
  have e2 : (cur.take (p + r) ++ (cur.take q).drop p ++ cur.drop (p + r + ((cur.take q).drop p).length)).drop (p + us.length) = (cur.take q).drop p ++ cur.drop (p + r + (q - p)) := by
    rw [e0, h2, List.append_assoc, List.drop_append_of_le_length (by rw [List.length_take]; omega), List.drop_of_length_le (by rw [List.length_take]; omega), List.nil_append]
  rw [e1, e2, ← List.append_assoc]
  rw [List.take_append_of_le_length (by simp only [List.length_append, List.length_take, List.length_drop, h2]; omega), List.take_of_length_le (by simp only [List.length_append, List.length_take, List.length_drop, h2]; omega)]
theorem ins_new {cur vs us : List Value} {p q r : Nat} (h1 : p ≤ q) (h0 : vs.length = q) (h2 : us.length = r) (h4 : cur.take p = vs.take p) :
    ((cur.take p ++ us ++ cur.drop (p + us.length)).take (p + r) ++ vs.drop p ++ (cur.take p ++ us ++ cur.drop (p + us.length)).drop (p + r + (vs.drop p).length)).take (q + r) = vs.take p ++ us ++ vs.drop p := by
  have e0 : (vs.drop p).length = q - p := by rw [List.length_drop, h0]
  have e1 : (cur.take p ++ us ++ cur.drop (p + us.length)).take (p + r) = vs.take p ++ us := by
    rw [h4, List.take_append_of_le_length (by simp only [List.length_append, List.length_take, h2]; omega), List.take_of_length_le (by simp only [List.length_append, List.length_take, h2]; omega)]
  rw [e1, List.take_append_of_le_length (by simp only [List.length_append, List.length_take, List.length_drop, h2]; omega), List.take_of_length_le (by simp only [List.length_append, List.length_take, List.length_drop, h2]; omega)]
theorem overlaps_apart {P : Program} {T Te Tb : TypeId} {sz : Nat} (hP : LsP P T Te sz) {f : FuncId} {fn : Func} (hf : P.funcs[f]? = some fn) (hname : (fn.name == "runtime.NumGoroutine") = false) (hb : fn.body.isNone = true) (hn : Extern.findNext fn = none) (he : Extern.find fn = some (Extern.SlicesOverlaps.overlaps #[T, T] #[Tb]))
    {w : World} {b g off m k mc kc : Nat} {us : List Value} {cur : Array Value} (hbc : w.heap[b]? = some (.cells us.toArray Te (0, 0))) (hg : w.heap[g]? = some (.cells cur Te (0, 0))) (hne : b ≠ g) (hcur : cur.size ≠ 0) :
    (callFunc f #[.slice (some ⟨b, 0, none⟩) m mc, .slice (some ⟨g, off, none⟩) k kc]).run P w = .ok (.value (.bool false)) w := by
  obtain ⟨i, hi, hsz⟩ := hP.info
  rw [run_callFunc_extern hf hname hb hn he, Lib.run_overlaps_apart w T Tb Te hP.hT sz (fun w => by simp [sizeOf, typeInfo, hi, hsz]) ⟨b, 0, none⟩ ⟨g, off, none⟩ m mc k kc hne Te Te us.length cur.size (by simp [World.shape?, hbc]) (by simp [World.shape?, hg]) hcur (by simp [World.frozen?, hbc]) (by simp [World.frozen?, hbc])]
  rfl
set_option maxRecDepth 100000 in
set_option maxHeartbeats 4000000 in
theorem insertEnd_k (w : World) {v : Value} {i b m : Nat} {vs us : List Value} (hv : RowQ 32 1 w v i vs) (hn : i + m ≤ 1000000) (hm : 0 < m) (hb : w.heap[b]? = some (.cells us.toArray 32 (0, 0))) (hu : us.length = m * 1) (hu1 : ∀ u ∈ us, u.oneCell' = true) :
    Calls Try.prog 39 #[v, .int .i64 i, .slice (some ⟨b, 0, none⟩) m m] w (RetRow 32 1 w v (i + m) (vs.take (i * 1) ++ us ++ vs.drop (i * 1))) := by
  have hz1 : ((m : Int) == 0) = false := beq_eq_false_iff_ne.2 (by omega)
  have hcs := new_cells hb
  have hl : vs.take (i * 1) ++ us ++ vs.drop (i * 1) = vs ++ us := by rw [List.take_of_length_le (by rw [hv.len]; omega), List.drop_of_length_le (by rw [hv.len]; omega), List.append_nil]
  rw [hl]
  clear hl
  obtain ⟨a, c, rfl, hnc, hcm⟩ := hv.shape
  go_enter Try.func39, Try.ntmps39
  go_upto_region 7 with (go_big_may; first
    | (refine wpList_sliceAny kysP.toLsP rfl rfl rfl (l := i) (r := i) (run_bounds_l _ (by omega)) ?_; intro _)
    | fail)
  go_wp2_with (first
    | (refine wpList_appQ kysP (by omega) rfl rfl rfl hv rfl hu hcs hu1 (by omega) ?_; intro ad cap w' hR)
    | fail)
  go_ret
  exact ⟨_, rfl, hR⟩
set_option maxRecDepth 100000 in
set_option maxHeartbeats 4000000 in
theorem insertGrow_k (w : World) {n i b m g cap : Nat} {vs us : List Value} (hv : RowQ 32 1 w (.slice (some ⟨g, 0, none⟩) n cap) n vs) (hi : i < n) (hn : n + m ≤ 1000000) (hm : 0 < m) (hb : w.heap[b]? = some (.cells us.toArray 32 (0, 0))) (hu : us.length = m * 1) (hu1 : ∀ u ∈ us, u.oneCell' = true) (hnc : n ≤ cap) (hroom : cap < n + m) :
    Calls Try.prog 39 #[.slice (some ⟨g, 0, none⟩) n cap, .int .i64 i, .slice (some ⟨b, 0, none⟩) m m] w (RetRow 32 1 w (.slice (some ⟨g, 0, none⟩) n cap) (n + m) (vs.take (i * 1) ++ us ++ vs.drop (i * 1))) := by
  have hz1 : ((m : Int) == 0) = false := beq_eq_false_iff_ne.2 (by omega)
  have hz2 : ((i : Int) == (n : Int)) = false := beq_eq_false_iff_ne.2 (by omega)
  have hz3 : decide ((cap : Int) < (n : Int) + (m : Int)) = true := decide_eq_true (by omega)
  have hcs := new_cells hb
  have hglt := hv.lt (k := g) rfl
  have hblt := (Array.getElem?_eq_some_iff.1 hb).1
  have hcs0 : ∀ (j : Nat) (u : Value), (vs.take (i * 1))[j]? = some u → w.cell? (Addr.add ⟨g, 0, none⟩ j) = some u := fun j u hj => by
    rw [List.getElem?_take] at hj
    split at hj
    · rw [Addr.add_lit, Nat.zero_add]; exact hv.cell rfl hj
    · cases hj
  have hl0 : (vs.take (i * 1)).length = i * 1 := by rw [List.length_take, hv.len]; exact Nat.min_eq_left (Nat.mul_le_mul_right _ (Nat.le_of_lt hi))
  go_enter Try.func39, Try.ntmps39
  go_upto_region 10 with (go_big_may; first
    | (refine wpList_sliceAny kysP.toLsP rfl rfl rfl (l := i) (r := n) (run_bounds_l _ (by omega)) ?_; intro _)
    | (refine wpList_sliceTo kysP.toLsP rfl rfl rfl (r := i) (run_bounds_h _ (by omega)) ?_)
    | (refine wpList_appZ kysP (by omega) (by kernel_rfl) rfl rfl rfl (m := n + m - i) rfl (by omega) hl0 (fun q hq => by cases hq; exact hcs0) (fun h => by cases h) (by omega) (by omega) (by omega) ?_; intro G cr hG1 hG2 hG3 hG4)
    | fail)
  have hL : i + (n + m - i) = n + m := by omega
  rw [hL] at hG1 ⊢
  clear hL
  have hg1 : ((w.alloc (.cells cr 32)).drew).heap[w.heap.size]? = some (.cells cr 32 (0, 0)) := by simp only [World.alloc, World.drew, Array.getElem?_push_size]
  have q1 : Below w.heap.size w ((w.alloc (.cells cr 32)).drew) := ((Below.refl _ _).alloc (Nat.le_refl _) _).drew
  generalize (w.alloc (.cells cr 32)).drew = W1 at *
  have hcs1 : ∀ (j : Nat) (u : Value), us[j]? = some u → W1.cell? (Addr.add ⟨b, 0, none⟩ j) = some u := fun j u hj => by
    have := hcs j u hj
    rw [Addr.add_lit] at this ⊢
    exact (cell_keep (q1.block b hblt) _).trans this
  have hGs : (n + m) * 1 ≤ G * 1 := Nat.mul_le_mul_right _ hG1
  have hLs : (n + m) * 1 = n * 1 + m * 1 := by rw [Nat.add_mul]
  have his : i * 1 ≤ n * 1 := Nat.mul_le_mul_right _ (Nat.le_of_lt hi)
  go_upto_region 11 with (go_big_may; first
    | (refine wpList_sliceFrom kysP.toLsP rfl rfl rfl (l := i) (r := n + m) (run_bounds_l _ (by omega)) (by omega) ?_)
    | (refine wpList_copyRaw kysP.toLsP rfl rfl rfl rfl hg1 (cs := us) (by rw [Nat.min_eq_left (by omega)]; exact hu) hcs1 hu1 (by rw [hG3, hu]; omega) ?_; intro W2 hg2 hgr2)
    | fail)
  have q2 : Below w.heap.size w W2 := q1.grown hgr2 q1.size (fun k hk => by injection hk with hk; omega)
  have hdl : (vs.drop (i * 1)).length = (n - i) * 1 := by rw [List.length_drop, hv.len, Nat.sub_mul]
  have hgc : ∀ (W : World), Below w.heap.size w W → ∀ (j : Nat) (u : Value), (vs.drop (i * 1))[j]? = some u → W.cell? (Addr.add ⟨g, 0 + i * 1, none⟩ j) = some u := fun W hW j u hj => by
    rw [List.getElem?_drop] at hj
    rw [Addr.add_lit, Nat.zero_add]
    exact (cell_keep (hW.block g hglt) _).trans (hv.cell rfl hj)
  obtain ⟨C1, hC1⟩ : ∃ C1 : Array Value, C1 = (cr.toList.take (0 + i * 1) ++ us ++ cr.toList.drop (0 + i * 1 + us.length)).toArray := ⟨_, rfl⟩
  replace hg2 : W2.heap[w.heap.size]? = some (.cells C1 32 (0, 0)) := by rw [hC1]; simpa using hg2
  have hC1s : C1.size = G * 1 := by
    rw [hC1]
    simp only [List.size_toArray, List.length_append, List.length_take, List.length_drop, Array.length_toList, hG3, hu]
    omega
  refine wp_region_lnl (K := fun _ _ => True) (by kernel_rfl) (by kernel_rfl) [8] (by kernel_rfl) [lEq (.slice (some ⟨w.heap.size, 0, none⟩) (n + m) G), lEq (.int .i64 (i : Int)), lEq (.int .i64 (m : Int)), lEq (.int .i64 ((i : Int) + (m : Int))), lEq (.slice (some ⟨w.heap.size, 0 + (i + m) * 1, none⟩) (n + m - (i + m)) (G - (i + m))), lEq (.slice (some ⟨g, 0, none⟩) n cap), lEq (.int .i64 (i : Int)), lEq (.slice (some ⟨g, 0 + i * 1, none⟩) (n - i) (cap - i)), lAny] (fun l W => Below w.heap.size w W ∧ W.heap[w.heap.size]? = some (.cells (match l with | [] => C1 | _ :: _ => (C1.toList.take (0 + (i + m) * 1) ++ vs.drop (i * 1) ++ C1.toList.drop (0 + (i + m) * 1 + (vs.drop (i * 1)).length)).toArray) 32 (0, 0))) (fun l A B h hb => ⟨h.1.trans (hb.mono h.1.size), (hb.block _ (Array.getElem?_eq_some_iff.1 h.2).1).trans h.2⟩) ⟨q2, hg2⟩
    ⟨?o0, ?o1, ?o2, ?o3, ?o4, ?o5, ?o6, ?o7, ?o8, trivial⟩ ?fin
  case o0 =>
    refine LnOp.side rfl (by kernel_rfl) (fun A vs w' k hF hT hk hJ hb hu hp hd => ?_)
    have e1 : A.eval (.tmp 9) = .slice (some ⟨w.heap.size, 0, none⟩) (n + m) G := hF 9 rfl
    exact BigFrame.wp_move _ rfl ⟨_, rfl, e1, Below.refl _ _⟩
  case o1 =>
    refine LnOp.side rfl (by kernel_rfl) (fun A vs w' k hF hT hk hJ hb hu hp hd => ?_)
    have e1 : A.eval (.tmp 1) = .int .i64 (i : Int) := hF 1 rfl
    exact BigFrame.wp_move _ rfl ⟨_, rfl, e1, Below.refl _ _⟩
  case o2 =>
    refine LnOp.side rfl (by kernel_rfl) (fun A vs w' k hF hT hk hJ hb hu hp hd => ?_)
    have e1 : A.eval (.tmp 7) = .int .i64 (m : Int) := hF 7 rfl
    exact BigFrame.wp_move _ rfl ⟨_, rfl, e1, Below.refl _ _⟩
  case o3 =>
    refine LnOp.side rfl (by kernel_rfl) (fun A vs w' k hF hT hk hJ hb hu hp hd => ?_)
    have e1 : A.eval (.tmp 47) = .int .i64 (i : Int) := (hT 47 1 (by simp [size_put]) rfl).trans (hd ⟨1, .data⟩ (by simp) rfl rfl)
    have e2 : A.eval (.tmp 48) = .int .i64 (m : Int) := (hT 48 2 (by simp [size_put]) rfl).trans (hd ⟨2, .data⟩ (by simp) rfl rfl)
    exact wp_addI rfl (e1) (e2) (by omega) (by omega) ⟨_, rfl, rfl, Below.refl _ _⟩
  case o4 =>
    refine LnOp.side rfl (by kernel_rfl) (fun A vs w' k hF hT hk hJ hb hu hp hd => ?_)
    have e1 : A.eval (.tmp 46) = .slice (some ⟨w.heap.size, 0, none⟩) (n + m) G := (hT 46 0 (by simp [size_put]) rfl).trans (hd ⟨0, .data⟩ (by simp) rfl rfl)
    have e2 : A.eval (.tmp 49) = .int .i64 ((i : Int) + (m : Int)) := (hT 49 3 (by simp [size_put]) rfl).trans (hd ⟨3, .data⟩ (by simp) rfl rfl)
    exact wp_sliceFrom kysP.toLsP rfl (e1) (congrArg some e2) rfl (run_bounds_l' _ (by omega) (by omega)) (by omega) ⟨_, rfl, rfl, Below.refl _ _⟩
  case o5 =>
    refine LnOp.side rfl (by kernel_rfl) (fun A vs w' k hF hT hk hJ hb hu hp hd => ?_)
    have e1 : A.eval (.tmp 0) = .slice (some ⟨g, 0, none⟩) n cap := hF 0 rfl
    exact BigFrame.wp_move _ rfl ⟨_, rfl, e1, Below.refl _ _⟩
  case o6 =>
    refine LnOp.side rfl (by kernel_rfl) (fun A vs w' k hF hT hk hJ hb hu hp hd => ?_)
    have e1 : A.eval (.tmp 1) = .int .i64 (i : Int) := hF 1 rfl
    exact BigFrame.wp_move _ rfl ⟨_, rfl, e1, Below.refl _ _⟩
  case o7 =>
    refine LnOp.side rfl (by kernel_rfl) (fun A vs w' k hF hT hk hJ hb hu hp hd => ?_)
    have e1 : A.eval (.tmp 51) = .slice (some ⟨g, 0, none⟩) n cap := (hT 51 5 (by simp [size_put]) rfl).trans (hd ⟨5, .data⟩ (by simp) rfl rfl)
    have e2 : A.eval (.tmp 52) = .int .i64 (i : Int) := (hT 52 6 (by simp [size_put]) rfl).trans (hd ⟨6, .data⟩ (by simp) rfl rfl)
    exact wp_sliceFrom kysP.toLsP rfl (e1) (congrArg some e2) rfl (run_bounds_l' _ (by omega) (by omega)) (by omega) ⟨_, rfl, rfl, Below.refl _ _⟩
  case o8 =>
    refine LnOp.line 0 rfl rfl (fun A va w' hF hT hJ hu hd => ?_)
    have e1 : A.eval (.tmp 50) = .slice (some ⟨w.heap.size, 0 + (i + m) * 1, none⟩) (n + m - (i + m)) (G - (i + m)) := (hT 50 4 (by simp [size_put]) rfl).trans (hd ⟨4, .data⟩ (by simp) rfl rfl)
    have e2 : A.eval (.tmp 53) = .slice (some ⟨g, 0 + i * 1, none⟩) (n - i) (cap - i) := (hT 53 7 (by simp [size_put]) rfl).trans (hd ⟨7, .data⟩ (by simp) rfl rfl)
    refine wp_copyRaw kysP.toLsP rfl e1 e2 hJ.2 (cs := vs.drop (i * 1)) (by rw [hdl, Nat.min_eq_left (by omega)]) (hgc _ hJ.1) (fun u hu => hv.2 u (List.mem_of_mem_drop hu)) ?_ ?_
    · show 0 + (i + m) * 1 + (vs.drop (i * 1)).length ≤ C1.size
      rw [hC1s, hdl, Nat.sub_mul, Nat.add_mul]
      omega
    · intro W3 hg3 hgr3
      exact ⟨_, rfl, ⟨hJ.1.grown hgr3 hJ.1.size (fun k hk => by injection hk with hk; omega), hg3⟩, trivial⟩
  case fin =>
    intro vs1 W3 hJ hG
    have e0 : vs1 0 = .slice (some ⟨w.heap.size, 0, none⟩) (n + m) G := hG 0 (by decide) rfl
    have e1 : vs1 1 = .int .i64 (i : Int) := hG 1 (by decide) rfl
    have e2 : vs1 2 = .int .i64 (m : Int) := hG 2 (by decide) rfl
    have e3 : vs1 3 = .int .i64 ((i : Int) + (m : Int)) := hG 3 (by decide) rfl
    have e4 : vs1 4 = .slice (some ⟨w.heap.size, 0 + (i + m) * 1, none⟩) (n + m - (i + m)) (G - (i + m)) := hG 4 (by decide) rfl
    have e5 : vs1 5 = .slice (some ⟨g, 0, none⟩) n cap := hG 5 (by decide) rfl
    have e6 : vs1 6 = .int .i64 (i : Int) := hG 6 (by decide) rfl
    have e7 : vs1 7 = .slice (some ⟨g, 0 + i * 1, none⟩) (n - i) (cap - i) := hG 7 (by decide) rfl
    simp only [putAll, e0, e1, e2, e3, e4, e5, e6, e7]
    clear hG e0 e1 e2 e3 e4 e5 e6 e7
    go_simp
    go_wp2_with fail
    go_ret
    refine ⟨_, rfl, RowQ.of hJ.2 hG1 hG2 ?_ ?_ ?_, ⟨hJ.1.os, hJ.1.tape, hJ.1.output, hJ.1.size, fun k hk _ => hJ.1.block k hk⟩, .inr ⟨_, rfl, Nat.le_refl _⟩⟩
    · show (List.toArray _).size = _
      simp only [List.size_toArray, List.length_append, List.length_take, List.length_drop, Array.length_toList, hC1s, hv.len, Nat.add_mul]
      rw [Nat.add_mul] at hGs
      omega
    · show List.take _ (C1.toList.take _ ++ _ ++ C1.toList.drop _) = _
      have := ins_new (cur := cr.toList) (vs := vs) (us := us) (p := i * 1) (q := n * 1) (r := m * 1) his hv.len hu hG4
      rw [hC1]
      simp only [Nat.add_mul, Nat.zero_add] at this ⊢
      exact this
    · intro u hu
      rcases List.mem_append.1 hu with h | h
      · rcases List.mem_append.1 h with h | h
        · exact hv.2 u (List.mem_of_mem_take h)
        · exact hu1 u h
      · exact hv.2 u (List.mem_of_mem_drop h)
set_option maxRecDepth 100000 in
set_option maxHeartbeats 4000000 in
theorem insertFit_k (w : World) {n i b m g cap : Nat} {vs us : List Value} (hv : RowQ 32 1 w (.slice (some ⟨g, 0, none⟩) n cap) n vs) (hi : i < n) (hn : n + m ≤ 1000000) (hm : 0 < m) (hb : w.heap[b]? = some (.cells us.toArray 32 (0, 0))) (hu : us.length = m * 1) (hu1 : ∀ u ∈ us, u.oneCell' = true) (hbg : b ≠ g) (hroom : n + m ≤ cap) :
    Calls Try.prog 39 #[.slice (some ⟨g, 0, none⟩) n cap, .int .i64 i, .slice (some ⟨b, 0, none⟩) m m] w (RetRow 32 1 w (.slice (some ⟨g, 0, none⟩) n cap) (n + m) (vs.take (i * 1) ++ us ++ vs.drop (i * 1))) := by
  have hz1 : ((m : Int) == 0) = false := beq_eq_false_iff_ne.2 (by omega)
  have hz2 : ((i : Int) == (n : Int)) = false := beq_eq_false_iff_ne.2 (by omega)
  have hz3 : decide ((cap : Int) < (n : Int) + (m : Int)) = false := decide_eq_false (by omega)
  have hcs := new_cells hb
  have hblt := (Array.getElem?_eq_some_iff.1 hb).1
  have hglt := hv.lt (k := g) rfl
  obtain ⟨cur, hg, hcm, hcs1, hct⟩ : ∃ cur, w.heap[g]? = some (.cells cur 32 (0, 0)) ∧ cap ≤ maxLen ∧ cur.size = cap * 1 ∧ cur.toList.take (n * 1) = vs := by
    rcases hv.cases with ⟨h, _⟩ | ⟨g', cap', cur, h, h1, h2, h3, h4, h5⟩
    · cases h
    · cases h
      exact ⟨cur, h1, h3, h4, h5⟩
  have his : i * 1 ≤ n * 1 := Nat.mul_le_mul_right _ (Nat.le_of_lt hi)
  have hns : (n + m) * 1 ≤ cap * 1 := Nat.mul_le_mul_right _ hroom
  have hdl : (vs.drop (i * 1)).length = (n - i) * 1 := by rw [List.length_drop, hv.len, Nat.sub_mul]
  have hov : ∀ off k kc, (callFunc 55 #[.slice (some ⟨b, 0, none⟩) m m, .slice (some ⟨g, off, none⟩) k kc]).run Try.prog w = .ok (.value (.bool false)) w := fun off k kc =>
    overlaps_apart (Tb := 4) kysP.toLsP Try.func55 (by kernel_rfl) rfl (by kernel_rfl) (by kernel_rfl) hb hg hbg (by rw [hcs1]; have : 0 < cap * 1 := Nat.mul_pos (by omega) (by omega); omega)
  go_enter Try.func39, Try.ntmps39
  go_upto_region 15 with (go_big_may; first
    | (refine wpList_sliceAny kysP.toLsP rfl rfl rfl (l := i) (r := n) (run_bounds_l _ (by omega)) ?_; intro _)
    | (refine wpList_sliceTo kysP.toLsP rfl rfl rfl (r := n + m) (run_bounds_h _ (by omega)) ?_)
    | (refine wpList_sliceFrom kysP.toLsP rfl rfl rfl (l := i + m) (r := n + m) (run_bounds_l' _ (by omega) (by omega)) (by omega) ?_)
    | fail)
  have hg0 := hg
  refine wp_region_lnl (K := fun _ _ => True) (by kernel_rfl) (by kernel_rfl) [8] (by kernel_rfl) [lEq (.slice (some ⟨g, 0, none⟩) (n + m) cap), lEq (.int .i64 (i : Int)), lEq (.int .i64 (m : Int)), lEq (.int .i64 ((i : Int) + (m : Int))), lEq (.slice (some ⟨g, 0 + (i + m) * 1, none⟩) (n + m - (i + m)) (cap - (i + m))), lEq (.slice (some ⟨g, 0, none⟩) (n + m) cap), lEq (.int .i64 (i : Int)), lEq (.slice (some ⟨g, 0 + i * 1, none⟩) (n + m - i) (cap - i)), lAny] (fun l W => Trd (· = g) w W ∧ W.heap[g]? = some (.cells (match l with | [] => cur | _ :: _ => (cur.toList.take (0 + (i + m) * 1) ++ vs.drop (i * 1) ++ cur.toList.drop (0 + (i + m) * 1 + (vs.drop (i * 1)).length)).toArray) 32 (0, 0))) (fun l A B h hb => ⟨h.1.trans (Trd.of (F := (· = g)) hb) (fun _ _ h => h), (hb.block _ (Array.getElem?_eq_some_iff.1 h.2).1).trans h.2⟩) ⟨Trd.refl _ _, hg⟩
    ⟨?o0, ?o1, ?o2, ?o3, ?o4, ?o5, ?o6, ?o7, ?o8, trivial⟩ ?fin
  case o0 =>
    refine LnOp.side rfl (by kernel_rfl) (fun A vs w' k hF hT hk hJ hb hu hp hd => ?_)
    have e1 : A.eval (.tmp 0) = .slice (some ⟨g, 0, none⟩) (n + m) cap := hF 0 rfl
    exact BigFrame.wp_move _ rfl ⟨_, rfl, e1, Below.refl _ _⟩
  case o1 =>
    refine LnOp.side rfl (by kernel_rfl) (fun A vs w' k hF hT hk hJ hb hu hp hd => ?_)
    have e1 : A.eval (.tmp 1) = .int .i64 (i : Int) := hF 1 rfl
    exact BigFrame.wp_move _ rfl ⟨_, rfl, e1, Below.refl _ _⟩
  case o2 =>
    refine LnOp.side rfl (by kernel_rfl) (fun A vs w' k hF hT hk hJ hb hu hp hd => ?_)
    have e1 : A.eval (.tmp 7) = .int .i64 (m : Int) := hF 7 rfl
    exact BigFrame.wp_move _ rfl ⟨_, rfl, e1, Below.refl _ _⟩
  case o3 =>
    refine LnOp.side rfl (by kernel_rfl) (fun A vs w' k hF hT hk hJ hb hu hp hd => ?_)
    have e1 : A.eval (.tmp 70) = .int .i64 (i : Int) := (hT 70 1 (by simp) rfl).trans (hd ⟨1, .data⟩ (by simp) rfl rfl)
    have e2 : A.eval (.tmp 71) = .int .i64 (m : Int) := (hT 71 2 (by simp) rfl).trans (hd ⟨2, .data⟩ (by simp) rfl rfl)
    exact wp_addI rfl (e1) (e2) (by omega) (by omega) ⟨_, rfl, rfl, Below.refl _ _⟩
  case o4 =>
    refine LnOp.side rfl (by kernel_rfl) (fun A vs w' k hF hT hk hJ hb hu hp hd => ?_)
    have e1 : A.eval (.tmp 69) = .slice (some ⟨g, 0, none⟩) (n + m) cap := (hT 69 0 (by simp) rfl).trans (hd ⟨0, .data⟩ (by simp) rfl rfl)
    have e2 : A.eval (.tmp 72) = .int .i64 ((i : Int) + (m : Int)) := (hT 72 3 (by simp) rfl).trans (hd ⟨3, .data⟩ (by simp) rfl rfl)
    exact wp_sliceFrom kysP.toLsP rfl (e1) (congrArg some e2) rfl (run_bounds_l' _ (by omega) (by omega)) (by omega) ⟨_, rfl, rfl, Below.refl _ _⟩
  case o5 =>
    refine LnOp.side rfl (by kernel_rfl) (fun A vs w' k hF hT hk hJ hb hu hp hd => ?_)
    have e1 : A.eval (.tmp 0) = .slice (some ⟨g, 0, none⟩) (n + m) cap := hF 0 rfl
    exact BigFrame.wp_move _ rfl ⟨_, rfl, e1, Below.refl _ _⟩
  case o6 =>
    refine LnOp.side rfl (by kernel_rfl) (fun A vs w' k hF hT hk hJ hb hu hp hd => ?_)
    have e1 : A.eval (.tmp 1) = .int .i64 (i : Int) := hF 1 rfl
    exact BigFrame.wp_move _ rfl ⟨_, rfl, e1, Below.refl _ _⟩
  case o7 =>
    refine LnOp.side rfl (by kernel_rfl) (fun A vs w' k hF hT hk hJ hb hu hp hd => ?_)
    have e1 : A.eval (.tmp 74) = .slice (some ⟨g, 0, none⟩) (n + m) cap := (hT 74 5 (by simp) rfl).trans (hd ⟨5, .data⟩ (by simp) rfl rfl)
    have e2 : A.eval (.tmp 75) = .int .i64 (i : Int) := (hT 75 6 (by simp) rfl).trans (hd ⟨6, .data⟩ (by simp) rfl rfl)
    exact wp_sliceFrom kysP.toLsP rfl (e1) (congrArg some e2) rfl (run_bounds_l' _ (by omega) (by omega)) (by omega) ⟨_, rfl, rfl, Below.refl _ _⟩
  case o8 =>
    refine LnOp.line 0 rfl rfl (fun A va w' hF hT hJ hu hd => ?_)
    have e1 : A.eval (.tmp 73) = .slice (some ⟨g, 0 + (i + m) * 1, none⟩) (n + m - (i + m)) (cap - (i + m)) := (hT 73 4 (by simp) rfl).trans (hd ⟨4, .data⟩ (by simp) rfl rfl)
    have e2 : A.eval (.tmp 76) = .slice (some ⟨g, 0 + i * 1, none⟩) (n + m - i) (cap - i) := (hT 76 7 (by simp) rfl).trans (hd ⟨7, .data⟩ (by simp) rfl rfl)
    refine wp_copyRaw kysP.toLsP rfl e1 e2 hJ.2 (cs := vs.drop (i * 1)) (by rw [hdl, Nat.min_eq_right (by omega)]; congr 1; omega) (fun j u hj => ?_) (fun u hu => hv.2 u (List.mem_of_mem_drop hu)) ?_ ?_
    · rw [List.getElem?_drop, ← hct, List.getElem?_take] at hj
      split at hj
      · rw [Addr.add_lit, Nat.zero_add]
        have h5 : w'.heap[g]? = some (.cells cur 32 (0, 0)) := hJ.2
        simpa [World.cell?, h5, ← Array.getElem?_toList] using hj
      · cases hj
    · show 0 + (i + m) * 1 + (vs.drop (i * 1)).length ≤ cur.size
      rw [hcs1, hdl, Nat.zero_add, ← Nat.add_mul]
      exact Nat.mul_le_mul_right _ (by omega)
    · intro W3 hg3 hgr3
      exact ⟨_, rfl, ⟨hJ.1.trans (Trd.ofGrown (F := (· = g)) hgr3 fun k hk => by injection hk with hk; exact hk.symm) (fun _ _ h => h), hg3⟩, trivial⟩
  case fin =>
    intro vs1 W3 hJ hG
    have e0 : vs1 0 = .slice (some ⟨g, 0, none⟩) (n + m) cap := hG 0 (by decide) rfl
    have e1 : vs1 1 = .int .i64 (i : Int) := hG 1 (by decide) rfl
    have e2 : vs1 2 = .int .i64 (m : Int) := hG 2 (by decide) rfl
    have e3 : vs1 3 = .int .i64 ((i : Int) + (m : Int)) := hG 3 (by decide) rfl
    have e4 : vs1 4 = .slice (some ⟨g, 0 + (i + m) * 1, none⟩) (n + m - (i + m)) (cap - (i + m)) := hG 4 (by decide) rfl
    have e5 : vs1 5 = .slice (some ⟨g, 0, none⟩) (n + m) cap := hG 5 (by decide) rfl
    have e6 : vs1 6 = .int .i64 (i : Int) := hG 6 (by decide) rfl
    have e7 : vs1 7 = .slice (some ⟨g, 0 + i * 1, none⟩) (n + m - i) (cap - i) := hG 7 (by decide) rfl
    simp only [putAll, e0, e1, e2, e3, e4, e5, e6, e7]
    clear hG e0 e1 e2 e3 e4 e5 e6 e7
    obtain ⟨C1, hC1⟩ : ∃ C1 : Array Value, C1 = (cur.toList.take (0 + (i + m) * 1) ++ vs.drop (i * 1) ++ cur.toList.drop (0 + (i + m) * 1 + (vs.drop (i * 1)).length)).toArray := ⟨_, rfl⟩
    have hg3 : W3.heap[g]? = some (.cells C1 32 (0, 0)) := by rw [hC1]; exact hJ.2
    have hC1s : C1.size = cap * 1 := by
      rw [hC1]
      simp only [List.size_toArray, List.length_append, List.length_take, List.length_drop, Array.length_toList, hcs1, hv.len, Nat.add_mul]
      rw [Nat.add_mul] at hns
      omega
    have hcs3 : ∀ (j : Nat) (u : Value), us[j]? = some u → W3.cell? (Addr.add ⟨b, 0, none⟩ j) = some u := fun j u hj => by
      have := hcs j u hj
      rw [Addr.add_lit] at this ⊢
      exact (cell_keep (hJ.1.block b hblt hbg) _).trans this
    go_simp
    go_wp2_with (go_big_may; first
      | (refine wpList_sliceFrom kysP.toLsP rfl rfl rfl (l := i) (r := n + m) (run_bounds_l _ (by omega)) (by omega) ?_)
      | (refine wpList_copyRaw kysP.toLsP rfl rfl rfl rfl hg3 (cs := us) (by rw [Nat.min_eq_left (by omega)]; exact hu) hcs3 hu1 (by rw [hC1s, hu]; omega) ?_; intro W4 hg4 hgr4)
      | fail)
    go_ret
    have q4 : Trd (· = g) w W4 := hJ.1.trans (Trd.ofGrown (F := (· = g)) hgr4 fun k hk => by injection hk with hk; exact hk.symm) (fun _ _ h => h)
    refine ⟨_, rfl, RowQ.of hg4 hroom hcm ?_ ?_ ?_, ⟨q4.os, q4.tape, q4.output, q4.size, fun k hk hn => q4.block k hk fun h => hn (by rw [h]; rfl)⟩, .inl rfl⟩
    · simp only [List.size_toArray, List.length_append, List.length_take, List.length_drop, Array.length_toList, hC1s, hu]
      rw [Nat.add_mul] at hns
      omega
    · have := ins_cells (cur := cur.toList) (us := us) (p := i * 1) (q := n * 1) (r := m * 1) his hu (by rw [Array.length_toList, hcs1, ← Nat.add_mul]; exact hns)
      rw [hct] at this
      rw [hC1]
      simp only [Nat.zero_add, Nat.mul_one] at this ⊢
      exact this
    · intro u hu
      rcases List.mem_append.1 hu with h | h
      · rcases List.mem_append.1 h with h | h
        · exact hv.2 u (List.mem_of_mem_take h)
        · exact hu1 u h
      · exact hv.2 u (List.mem_of_mem_drop h)
theorem insert_k (w : World) {v : Value} {n i b m : Nat} {vs us : List Value} (hv : RowQ 32 1 w v n vs) (hi : i ≤ n) (hn : n + m ≤ 1000000) (hm : 0 < m) (hb : w.heap[b]? = some (.cells us.toArray 32 (0, 0))) (hu : us.length = m * 1) (hu1 : ∀ u ∈ us, u.oneCell' = true) (hbg : v.ownBlock ≠ some b) :
    Calls Try.prog 39 #[v, .int .i64 i, .slice (some ⟨b, 0, none⟩) m m] w (RetRow 32 1 w v (n + m) (vs.take (i * 1) ++ us ++ vs.drop (i * 1))) := by
  rcases Nat.lt_or_ge i n with h | h
  · rcases hv.cases with ⟨_, h2, _⟩ | ⟨g, cap, cur, rfl, _, h3, _⟩
    · omega
    · rcases Nat.lt_or_ge cap (n + m) with h4 | h4
      · exact insertGrow_k w hv h hn hm hb hu hu1 h3 h4
      · exact insertFit_k w hv h hn hm hb hu hu1 (fun e => hbg (by rw [e]; rfl)) h4
  · obtain rfl : i = n := by omega
    exact insertEnd_k w hv hn hm hb hu hu1
set_option maxRecDepth 100000 in
set_option maxHeartbeats 4000000 in
theorem insertEnd_c (w : World) {v : Value} {i b m : Nat} {vs us : List Value} (hv : RowQ 37 1 w v i vs) (hn : i + m ≤ 1000000) (hm : 0 < m) (hb : w.heap[b]? = some (.cells us.toArray 37 (0, 0))) (hu : us.length = m * 1) (hu1 : ∀ u ∈ us, u.oneCell' = true) :
    Calls Try.prog 40 #[v, .int .i64 i, .slice (some ⟨b, 0, none⟩) m m] w (RetRow 37 1 w v (i + m) (vs.take (i * 1) ++ us ++ vs.drop (i * 1))) := by
  have hz1 : ((m : Int) == 0) = false := beq_eq_false_iff_ne.2 (by omega)
  have hcs := new_cells hb
  have hl : vs.take (i * 1) ++ us ++ vs.drop (i * 1) = vs ++ us := by rw [List.take_of_length_le (by rw [hv.len]; omega), List.drop_of_length_le (by rw [hv.len]; omega), List.append_nil]
  rw [hl]
  clear hl
  obtain ⟨a, c, rfl, hnc, hcm⟩ := hv.shape
  go_enter Try.func40, Try.ntmps40
  go_upto_region 7 with (go_big_may; first
    | (refine wpList_sliceAny chsP.toLsP rfl rfl rfl (l := i) (r := i) (run_bounds_l _ (by omega)) ?_; intro _)
    | fail)
  go_wp2_with (first
    | (refine wpList_appQ chsP (by omega) rfl rfl rfl hv rfl hu hcs hu1 (by omega) ?_; intro ad cap w' hR)
    | fail)
  go_ret
  exact ⟨_, rfl, hR⟩
set_option maxRecDepth 100000 in
set_option maxHeartbeats 4000000 in
theorem insertGrow_c (w : World) {n i b m g cap : Nat} {vs us : List Value} (hv : RowQ 37 1 w (.slice (some ⟨g, 0, none⟩) n cap) n vs) (hi : i < n) (hn : n + m ≤ 1000000) (hm : 0 < m) (hb : w.heap[b]? = some (.cells us.toArray 37 (0, 0))) (hu : us.length = m * 1) (hu1 : ∀ u ∈ us, u.oneCell' = true) (hnc : n ≤ cap) (hroom : cap < n + m) :
    Calls Try.prog 40 #[.slice (some ⟨g, 0, none⟩) n cap, .int .i64 i, .slice (some ⟨b, 0, none⟩) m m] w (RetRow 37 1 w (.slice (some ⟨g, 0, none⟩) n cap) (n + m) (vs.take (i * 1) ++ us ++ vs.drop (i * 1))) := by
  have hz1 : ((m : Int) == 0) = false := beq_eq_false_iff_ne.2 (by omega)
  have hz2 : ((i : Int) == (n : Int)) = false := beq_eq_false_iff_ne.2 (by omega)
  have hz3 : decide ((cap : Int) < (n : Int) + (m : Int)) = true := decide_eq_true (by omega)
  have hcs := new_cells hb
  have hglt := hv.lt (k := g) rfl
  have hblt := (Array.getElem?_eq_some_iff.1 hb).1
  have hcs0 : ∀ (j : Nat) (u : Value), (vs.take (i * 1))[j]? = some u → w.cell? (Addr.add ⟨g, 0, none⟩ j) = some u := fun j u hj => by
    rw [List.getElem?_take] at hj
    split at hj
    · rw [Addr.add_lit, Nat.zero_add]; exact hv.cell rfl hj
    · cases hj
  have hl0 : (vs.take (i * 1)).length = i * 1 := by rw [List.length_take, hv.len]; exact Nat.min_eq_left (Nat.mul_le_mul_right _ (Nat.le_of_lt hi))
  go_enter Try.func40, Try.ntmps40
  go_upto_region 10 with (go_big_may; first
    | (refine wpList_sliceAny chsP.toLsP rfl rfl rfl (l := i) (r := n) (run_bounds_l _ (by omega)) ?_; intro _)
    | (refine wpList_sliceTo chsP.toLsP rfl rfl rfl (r := i) (run_bounds_h _ (by omega)) ?_)
    | (refine wpList_appZ chsP (by omega) (by kernel_rfl) rfl rfl rfl (m := n + m - i) rfl (by omega) hl0 (fun q hq => by cases hq; exact hcs0) (fun h => by cases h) (by omega) (by omega) (by omega) ?_; intro G cr hG1 hG2 hG3 hG4)
    | fail)
  have hL : i + (n + m - i) = n + m := by omega
  rw [hL] at hG1 ⊢
  clear hL
  have hg1 : ((w.alloc (.cells cr 37)).drew).heap[w.heap.size]? = some (.cells cr 37 (0, 0)) := by simp only [World.alloc, World.drew, Array.getElem?_push_size]
  have q1 : Below w.heap.size w ((w.alloc (.cells cr 37)).drew) := ((Below.refl _ _).alloc (Nat.le_refl _) _).drew
  generalize (w.alloc (.cells cr 37)).drew = W1 at *
  have hcs1 : ∀ (j : Nat) (u : Value), us[j]? = some u → W1.cell? (Addr.add ⟨b, 0, none⟩ j) = some u := fun j u hj => by
    have := hcs j u hj
    rw [Addr.add_lit] at this ⊢
    exact (cell_keep (q1.block b hblt) _).trans this
  have hGs : (n + m) * 1 ≤ G * 1 := Nat.mul_le_mul_right _ hG1
  have hLs : (n + m) * 1 = n * 1 + m * 1 := by rw [Nat.add_mul]
  have his : i * 1 ≤ n * 1 := Nat.mul_le_mul_right _ (Nat.le_of_lt hi)
  go_upto_region 11 with (go_big_may; first
    | (refine wpList_sliceFrom chsP.toLsP rfl rfl rfl (l := i) (r := n + m) (run_bounds_l _ (by omega)) (by omega) ?_)
    | (refine wpList_copyRaw chsP.toLsP rfl rfl rfl rfl hg1 (cs := us) (by rw [Nat.min_eq_left (by omega)]; exact hu) hcs1 hu1 (by rw [hG3, hu]; omega) ?_; intro W2 hg2 hgr2)
    | fail)
  have q2 : Below w.heap.size w W2 := q1.grown hgr2 q1.size (fun k hk => by injection hk with hk; omega)
  have hdl : (vs.drop (i * 1)).length = (n - i) * 1 := by rw [List.length_drop, hv.len, Nat.sub_mul]
  have hgc : ∀ (W : World), Below w.heap.size w W → ∀ (j : Nat) (u : Value), (vs.drop (i * 1))[j]? = some u → W.cell? (Addr.add ⟨g, 0 + i * 1, none⟩ j) = some u := fun W hW j u hj => by
    rw [List.getElem?_drop] at hj
    rw [Addr.add_lit, Nat.zero_add]
    exact (cell_keep (hW.block g hglt) _).trans (hv.cell rfl hj)
  obtain ⟨C1, hC1⟩ : ∃ C1 : Array Value, C1 = (cr.toList.take (0 + i * 1) ++ us ++ cr.toList.drop (0 + i * 1 + us.length)).toArray := ⟨_, rfl⟩
  replace hg2 : W2.heap[w.heap.size]? = some (.cells C1 37 (0, 0)) := by rw [hC1]; simpa using hg2
  have hC1s : C1.size = G * 1 := by
    rw [hC1]
    simp only [List.size_toArray, List.length_append, List.length_take, List.length_drop, Array.length_toList, hG3, hu]
    omega
  refine wp_region_lnl (K := fun _ _ => True) (by kernel_rfl) (by kernel_rfl) [8] (by kernel_rfl) [lEq (.slice (some ⟨w.heap.size, 0, none⟩) (n + m) G), lEq (.int .i64 (i : Int)), lEq (.int .i64 (m : Int)), lEq (.int .i64 ((i : Int) + (m : Int))), lEq (.slice (some ⟨w.heap.size, 0 + (i + m) * 1, none⟩) (n + m - (i + m)) (G - (i + m))), lEq (.slice (some ⟨g, 0, none⟩) n cap), lEq (.int .i64 (i : Int)), lEq (.slice (some ⟨g, 0 + i * 1, none⟩) (n - i) (cap - i)), lAny] (fun l W => Below w.heap.size w W ∧ W.heap[w.heap.size]? = some (.cells (match l with | [] => C1 | _ :: _ => (C1.toList.take (0 + (i + m) * 1) ++ vs.drop (i * 1) ++ C1.toList.drop (0 + (i + m) * 1 + (vs.drop (i * 1)).length)).toArray) 37 (0, 0))) (fun l A B h hb => ⟨h.1.trans (hb.mono h.1.size), (hb.block _ (Array.getElem?_eq_some_iff.1 h.2).1).trans h.2⟩) ⟨q2, hg2⟩
    ⟨?o0, ?o1, ?o2, ?o3, ?o4, ?o5, ?o6, ?o7, ?o8, trivial⟩ ?fin
  case o0 =>
    refine LnOp.side rfl (by kernel_rfl) (fun A vs w' k hF hT hk hJ hb hu hp hd => ?_)
    have e1 : A.eval (.tmp 9) = .slice (some ⟨w.heap.size, 0, none⟩) (n + m) G := hF 9 rfl
    exact BigFrame.wp_move _ rfl ⟨_, rfl, e1, Below.refl _ _⟩
  case o1 =>
    refine LnOp.side rfl (by kernel_rfl) (fun A vs w' k hF hT hk hJ hb hu hp hd => ?_)
    have e1 : A.eval (.tmp 1) = .int .i64 (i : Int) := hF 1 rfl
    exact BigFrame.wp_move _ rfl ⟨_, rfl, e1, Below.refl _ _⟩
  case o2 =>
    refine LnOp.side rfl (by kernel_rfl) (fun A vs w' k hF hT hk hJ hb hu hp hd => ?_)
    have e1 : A.eval (.tmp 7) = .int .i64 (m : Int) := hF 7 rfl
    exact BigFrame.wp_move _ rfl ⟨_, rfl, e1, Below.refl _ _⟩
  case o3 =>
    refine LnOp.side rfl (by kernel_rfl) (fun A vs w' k hF hT hk hJ hb hu hp hd => ?_)
    have e1 : A.eval (.tmp 47) = .int .i64 (i : Int) := (hT 47 1 (by simp [size_put]) rfl).trans (hd ⟨1, .data⟩ (by simp) rfl rfl)
    have e2 : A.eval (.tmp 48) = .int .i64 (m : Int) := (hT 48 2 (by simp [size_put]) rfl).trans (hd ⟨2, .data⟩ (by simp) rfl rfl)
    exact wp_addI rfl (e1) (e2) (by omega) (by omega) ⟨_, rfl, rfl, Below.refl _ _⟩
  case o4 =>
    refine LnOp.side rfl (by kernel_rfl) (fun A vs w' k hF hT hk hJ hb hu hp hd => ?_)
    have e1 : A.eval (.tmp 46) = .slice (some ⟨w.heap.size, 0, none⟩) (n + m) G := (hT 46 0 (by simp [size_put]) rfl).trans (hd ⟨0, .data⟩ (by simp) rfl rfl)
    have e2 : A.eval (.tmp 49) = .int .i64 ((i : Int) + (m : Int)) := (hT 49 3 (by simp [size_put]) rfl).trans (hd ⟨3, .data⟩ (by simp) rfl rfl)
    exact wp_sliceFrom chsP.toLsP rfl (e1) (congrArg some e2) rfl (run_bounds_l' _ (by omega) (by omega)) (by omega) ⟨_, rfl, rfl, Below.refl _ _⟩
  case o5 =>
    refine LnOp.side rfl (by kernel_rfl) (fun A vs w' k hF hT hk hJ hb hu hp hd => ?_)
    have e1 : A.eval (.tmp 0) = .slice (some ⟨g, 0, none⟩) n cap := hF 0 rfl
    exact BigFrame.wp_move _ rfl ⟨_, rfl, e1, Below.refl _ _⟩
  case o6 =>
    refine LnOp.side rfl (by kernel_rfl) (fun A vs w' k hF hT hk hJ hb hu hp hd => ?_)
    have e1 : A.eval (.tmp 1) = .int .i64 (i : Int) := hF 1 rfl
    exact BigFrame.wp_move _ rfl ⟨_, rfl, e1, Below.refl _ _⟩
  case o7 =>
    refine LnOp.side rfl (by kernel_rfl) (fun A vs w' k hF hT hk hJ hb hu hp hd => ?_)
    have e1 : A.eval (.tmp 51) = .slice (some ⟨g, 0, none⟩) n cap := (hT 51 5 (by simp [size_put]) rfl).trans (hd ⟨5, .data⟩ (by simp) rfl rfl)
    have e2 : A.eval (.tmp 52) = .int .i64 (i : Int) := (hT 52 6 (by simp [size_put]) rfl).trans (hd ⟨6, .data⟩ (by simp) rfl rfl)
    exact wp_sliceFrom chsP.toLsP rfl (e1) (congrArg some e2) rfl (run_bounds_l' _ (by omega) (by omega)) (by omega) ⟨_, rfl, rfl, Below.refl _ _⟩
  case o8 =>
    refine LnOp.line 0 rfl rfl (fun A va w' hF hT hJ hu hd => ?_)
    have e1 : A.eval (.tmp 50) = .slice (some ⟨w.heap.size, 0 + (i + m) * 1, none⟩) (n + m - (i + m)) (G - (i + m)) := (hT 50 4 (by simp [size_put]) rfl).trans (hd ⟨4, .data⟩ (by simp) rfl rfl)
    have e2 : A.eval (.tmp 53) = .slice (some ⟨g, 0 + i * 1, none⟩) (n - i) (cap - i) := (hT 53 7 (by simp [size_put]) rfl).trans (hd ⟨7, .data⟩ (by simp) rfl rfl)
    refine wp_copyRaw chsP.toLsP rfl e1 e2 hJ.2 (cs := vs.drop (i * 1)) (by rw [hdl, Nat.min_eq_left (by omega)]) (hgc _ hJ.1) (fun u hu => hv.2 u (List.mem_of_mem_drop hu)) ?_ ?_
    · show 0 + (i + m) * 1 + (vs.drop (i * 1)).length ≤ C1.size
      rw [hC1s, hdl, Nat.sub_mul, Nat.add_mul]
      omega
    · intro W3 hg3 hgr3
      exact ⟨_, rfl, ⟨hJ.1.grown hgr3 hJ.1.size (fun k hk => by injection hk with hk; omega), hg3⟩, trivial⟩
  case fin =>
    intro vs1 W3 hJ hG
    have e0 : vs1 0 = .slice (some ⟨w.heap.size, 0, none⟩) (n + m) G := hG 0 (by decide) rfl
    have e1 : vs1 1 = .int .i64 (i : Int) := hG 1 (by decide) rfl
    have e2 : vs1 2 = .int .i64 (m : Int) := hG 2 (by decide) rfl
    have e3 : vs1 3 = .int .i64 ((i : Int) + (m : Int)) := hG 3 (by decide) rfl
    have e4 : vs1 4 = .slice (some ⟨w.heap.size, 0 + (i + m) * 1, none⟩) (n + m - (i + m)) (G - (i + m)) := hG 4 (by decide) rfl
    have e5 : vs1 5 = .slice (some ⟨g, 0, none⟩) n cap := hG 5 (by decide) rfl
    have e6 : vs1 6 = .int .i64 (i : Int) := hG 6 (by decide) rfl
    have e7 : vs1 7 = .slice (some ⟨g, 0 + i * 1, none⟩) (n - i) (cap - i) := hG 7 (by decide) rfl
    simp only [putAll, e0, e1, e2, e3, e4, e5, e6, e7]
    clear hG e0 e1 e2 e3 e4 e5 e6 e7
    go_simp
    go_wp2_with fail
    go_ret
    refine ⟨_, rfl, RowQ.of hJ.2 hG1 hG2 ?_ ?_ ?_, ⟨hJ.1.os, hJ.1.tape, hJ.1.output, hJ.1.size, fun k hk _ => hJ.1.block k hk⟩, .inr ⟨_, rfl, Nat.le_refl _⟩⟩
    · show (List.toArray _).size = _
      simp only [List.size_toArray, List.length_append, List.length_take, List.length_drop, Array.length_toList, hC1s, hv.len, Nat.add_mul]
      rw [Nat.add_mul] at hGs
      omega
    · show List.take _ (C1.toList.take _ ++ _ ++ C1.toList.drop _) = _
      have := ins_new (cur := cr.toList) (vs := vs) (us := us) (p := i * 1) (q := n * 1) (r := m * 1) his hv.len hu hG4
      rw [hC1]
      simp only [Nat.add_mul, Nat.zero_add] at this ⊢
      exact this
    · intro u hu
      rcases List.mem_append.1 hu with h | h
      · rcases List.mem_append.1 h with h | h
        · exact hv.2 u (List.mem_of_mem_take h)
        · exact hu1 u h
      · exact hv.2 u (List.mem_of_mem_drop h)
set_option maxRecDepth 100000 in
set_option maxHeartbeats 4000000 in
theorem insertFit_c (w : World) {n i b m g cap : Nat} {vs us : List Value} (hv : RowQ 37 1 w (.slice (some ⟨g, 0, none⟩) n cap) n vs) (hi : i < n) (hn : n + m ≤ 1000000) (hm : 0 < m) (hb : w.heap[b]? = some (.cells us.toArray 37 (0, 0))) (hu : us.length = m * 1) (hu1 : ∀ u ∈ us, u.oneCell' = true) (hbg : b ≠ g) (hroom : n + m ≤ cap) :
    Calls Try.prog 40 #[.slice (some ⟨g, 0, none⟩) n cap, .int .i64 i, .slice (some ⟨b, 0, none⟩) m m] w (RetRow 37 1 w (.slice (some ⟨g, 0, none⟩) n cap) (n + m) (vs.take (i * 1) ++ us ++ vs.drop (i * 1))) := by
  have hz1 : ((m : Int) == 0) = false := beq_eq_false_iff_ne.2 (by omega)
  have hz2 : ((i : Int) == (n : Int)) = false := beq_eq_false_iff_ne.2 (by omega)
  have hz3 : decide ((cap : Int) < (n : Int) + (m : Int)) = false := decide_eq_false (by omega)
  have hcs := new_cells hb
  have hblt := (Array.getElem?_eq_some_iff.1 hb).1
  have hglt := hv.lt (k := g) rfl
  obtain ⟨cur, hg, hcm, hcs1, hct⟩ : ∃ cur, w.heap[g]? = some (.cells cur 37 (0, 0)) ∧ cap ≤ maxLen ∧ cur.size = cap * 1 ∧ cur.toList.take (n * 1) = vs := by
    rcases hv.cases with ⟨h, _⟩ | ⟨g', cap', cur, h, h1, h2, h3, h4, h5⟩
    · cases h
    · cases h
      exact ⟨cur, h1, h3, h4, h5⟩
  have his : i * 1 ≤ n * 1 := Nat.mul_le_mul_right _ (Nat.le_of_lt hi)
  have hns : (n + m) * 1 ≤ cap * 1 := Nat.mul_le_mul_right _ hroom
  have hdl : (vs.drop (i * 1)).length = (n - i) * 1 := by rw [List.length_drop, hv.len, Nat.sub_mul]
  have hov : ∀ off k kc, (callFunc 57 #[.slice (some ⟨b, 0, none⟩) m m, .slice (some ⟨g, off, none⟩) k kc]).run Try.prog w = .ok (.value (.bool false)) w := fun off k kc =>
    overlaps_apart (Tb := 4) chsP.toLsP Try.func57 (by kernel_rfl) rfl (by kernel_rfl) (by kernel_rfl) hb hg hbg (by rw [hcs1]; have : 0 < cap * 1 := Nat.mul_pos (by omega) (by omega); omega)
  go_enter Try.func40, Try.ntmps40
  go_upto_region 15 with (go_big_may; first
    | (refine wpList_sliceAny chsP.toLsP rfl rfl rfl (l := i) (r := n) (run_bounds_l _ (by omega)) ?_; intro _)
    | (refine wpList_sliceTo chsP.toLsP rfl rfl rfl (r := n + m) (run_bounds_h _ (by omega)) ?_)
    | (refine wpList_sliceFrom chsP.toLsP rfl rfl rfl (l := i + m) (r := n + m) (run_bounds_l' _ (by omega) (by omega)) (by omega) ?_)
    | fail)
  have hg0 := hg
  refine wp_region_lnl (K := fun _ _ => True) (by kernel_rfl) (by kernel_rfl) [8] (by kernel_rfl) [lEq (.slice (some ⟨g, 0, none⟩) (n + m) cap), lEq (.int .i64 (i : Int)), lEq (.int .i64 (m : Int)), lEq (.int .i64 ((i : Int) + (m : Int))), lEq (.slice (some ⟨g, 0 + (i + m) * 1, none⟩) (n + m - (i + m)) (cap - (i + m))), lEq (.slice (some ⟨g, 0, none⟩) (n + m) cap), lEq (.int .i64 (i : Int)), lEq (.slice (some ⟨g, 0 + i * 1, none⟩) (n + m - i) (cap - i)), lAny] (fun l W => Trd (· = g) w W ∧ W.heap[g]? = some (.cells (match l with | [] => cur | _ :: _ => (cur.toList.take (0 + (i + m) * 1) ++ vs.drop (i * 1) ++ cur.toList.drop (0 + (i + m) * 1 + (vs.drop (i * 1)).length)).toArray) 37 (0, 0))) (fun l A B h hb => ⟨h.1.trans (Trd.of (F := (· = g)) hb) (fun _ _ h => h), (hb.block _ (Array.getElem?_eq_some_iff.1 h.2).1).trans h.2⟩) ⟨Trd.refl _ _, hg⟩
    ⟨?o0, ?o1, ?o2, ?o3, ?o4, ?o5, ?o6, ?o7, ?o8, trivial⟩ ?fin
  case o0 =>
    refine LnOp.side rfl (by kernel_rfl) (fun A vs w' k hF hT hk hJ hb hu hp hd => ?_)
    have e1 : A.eval (.tmp 0) = .slice (some ⟨g, 0, none⟩) (n + m) cap := hF 0 rfl
    exact BigFrame.wp_move _ rfl ⟨_, rfl, e1, Below.refl _ _⟩
  case o1 =>
    refine LnOp.side rfl (by kernel_rfl) (fun A vs w' k hF hT hk hJ hb hu hp hd => ?_)
    have e1 : A.eval (.tmp 1) = .int .i64 (i : Int) := hF 1 rfl
    exact BigFrame.wp_move _ rfl ⟨_, rfl, e1, Below.refl _ _⟩
  case o2 =>
    refine LnOp.side rfl (by kernel_rfl) (fun A vs w' k hF hT hk hJ hb hu hp hd => ?_)
    have e1 : A.eval (.tmp 7) = .int .i64 (m : Int) := hF 7 rfl
    exact BigFrame.wp_move _ rfl ⟨_, rfl, e1, Below.refl _ _⟩
  case o3 =>
    refine LnOp.side rfl (by kernel_rfl) (fun A vs w' k hF hT hk hJ hb hu hp hd => ?_)
    have e1 : A.eval (.tmp 70) = .int .i64 (i : Int) := (hT 70 1 (by simp) rfl).trans (hd ⟨1, .data⟩ (by simp) rfl rfl)
    have e2 : A.eval (.tmp 71) = .int .i64 (m : Int) := (hT 71 2 (by simp) rfl).trans (hd ⟨2, .data⟩ (by simp) rfl rfl)
    exact wp_addI rfl (e1) (e2) (by omega) (by omega) ⟨_, rfl, rfl, Below.refl _ _⟩
  case o4 =>
    refine LnOp.side rfl (by kernel_rfl) (fun A vs w' k hF hT hk hJ hb hu hp hd => ?_)
    have e1 : A.eval (.tmp 69) = .slice (some ⟨g, 0, none⟩) (n + m) cap := (hT 69 0 (by simp) rfl).trans (hd ⟨0, .data⟩ (by simp) rfl rfl)
    have e2 : A.eval (.tmp 72) = .int .i64 ((i : Int) + (m : Int)) := (hT 72 3 (by simp) rfl).trans (hd ⟨3, .data⟩ (by simp) rfl rfl)
    exact wp_sliceFrom chsP.toLsP rfl (e1) (congrArg some e2) rfl (run_bounds_l' _ (by omega) (by omega)) (by omega) ⟨_, rfl, rfl, Below.refl _ _⟩
  case o5 =>
    refine LnOp.side rfl (by kernel_rfl) (fun A vs w' k hF hT hk hJ hb hu hp hd => ?_)
    have e1 : A.eval (.tmp 0) = .slice (some ⟨g, 0, none⟩) (n + m) cap := hF 0 rfl
    exact BigFrame.wp_move _ rfl ⟨_, rfl, e1, Below.refl _ _⟩
  case o6 =>
    refine LnOp.side rfl (by kernel_rfl) (fun A vs w' k hF hT hk hJ hb hu hp hd => ?_)
    have e1 : A.eval (.tmp 1) = .int .i64 (i : Int) := hF 1 rfl
    exact BigFrame.wp_move _ rfl ⟨_, rfl, e1, Below.refl _ _⟩
  case o7 =>
    refine LnOp.side rfl (by kernel_rfl) (fun A vs w' k hF hT hk hJ hb hu hp hd => ?_)
    have e1 : A.eval (.tmp 74) = .slice (some ⟨g, 0, none⟩) (n + m) cap := (hT 74 5 (by simp) rfl).trans (hd ⟨5, .data⟩ (by simp) rfl rfl)
    have e2 : A.eval (.tmp 75) = .int .i64 (i : Int) := (hT 75 6 (by simp) rfl).trans (hd ⟨6, .data⟩ (by simp) rfl rfl)
    exact wp_sliceFrom chsP.toLsP rfl (e1) (congrArg some e2) rfl (run_bounds_l' _ (by omega) (by omega)) (by omega) ⟨_, rfl, rfl, Below.refl _ _⟩
  case o8 =>
    refine LnOp.line 0 rfl rfl (fun A va w' hF hT hJ hu hd => ?_)
    have e1 : A.eval (.tmp 73) = .slice (some ⟨g, 0 + (i + m) * 1, none⟩) (n + m - (i + m)) (cap - (i + m)) := (hT 73 4 (by simp) rfl).trans (hd ⟨4, .data⟩ (by simp) rfl rfl)
    have e2 : A.eval (.tmp 76) = .slice (some ⟨g, 0 + i * 1, none⟩) (n + m - i) (cap - i) := (hT 76 7 (by simp) rfl).trans (hd ⟨7, .data⟩ (by simp) rfl rfl)
    refine wp_copyRaw chsP.toLsP rfl e1 e2 hJ.2 (cs := vs.drop (i * 1)) (by rw [hdl, Nat.min_eq_right (by omega)]; congr 1; omega) (fun j u hj => ?_) (fun u hu => hv.2 u (List.mem_of_mem_drop hu)) ?_ ?_
    · rw [List.getElem?_drop, ← hct, List.getElem?_take] at hj
      split at hj
      · rw [Addr.add_lit, Nat.zero_add]
        have h5 : w'.heap[g]? = some (.cells cur 37 (0, 0)) := hJ.2
        simpa [World.cell?, h5, ← Array.getElem?_toList] using hj
      · cases hj
    · show 0 + (i + m) * 1 + (vs.drop (i * 1)).length ≤ cur.size
      rw [hcs1, hdl, Nat.zero_add, ← Nat.add_mul]
      exact Nat.mul_le_mul_right _ (by omega)
    · intro W3 hg3 hgr3
      exact ⟨_, rfl, ⟨hJ.1.trans (Trd.ofGrown (F := (· = g)) hgr3 fun k hk => by injection hk with hk; exact hk.symm) (fun _ _ h => h), hg3⟩, trivial⟩
  case fin =>
    intro vs1 W3 hJ hG
    have e0 : vs1 0 = .slice (some ⟨g, 0, none⟩) (n + m) cap := hG 0 (by decide) rfl
    have e1 : vs1 1 = .int .i64 (i : Int) := hG 1 (by decide) rfl
    have e2 : vs1 2 = .int .i64 (m : Int) := hG 2 (by decide) rfl
    have e3 : vs1 3 = .int .i64 ((i : Int) + (m : Int)) := hG 3 (by decide) rfl
    have e4 : vs1 4 = .slice (some ⟨g, 0 + (i + m) * 1, none⟩) (n + m - (i + m)) (cap - (i + m)) := hG 4 (by decide) rfl
    have e5 : vs1 5 = .slice (some ⟨g, 0, none⟩) (n + m) cap := hG 5 (by decide) rfl
    have e6 : vs1 6 = .int .i64 (i : Int) := hG 6 (by decide) rfl
    have e7 : vs1 7 = .slice (some ⟨g, 0 + i * 1, none⟩) (n + m - i) (cap - i) := hG 7 (by decide) rfl
    simp only [putAll, e0, e1, e2, e3, e4, e5, e6, e7]
    clear hG e0 e1 e2 e3 e4 e5 e6 e7
    obtain ⟨C1, hC1⟩ : ∃ C1 : Array Value, C1 = (cur.toList.take (0 + (i + m) * 1) ++ vs.drop (i * 1) ++ cur.toList.drop (0 + (i + m) * 1 + (vs.drop (i * 1)).length)).toArray := ⟨_, rfl⟩
    have hg3 : W3.heap[g]? = some (.cells C1 37 (0, 0)) := by rw [hC1]; exact hJ.2
    have hC1s : C1.size = cap * 1 := by
      rw [hC1]
      simp only [List.size_toArray, List.length_append, List.length_take, List.length_drop, Array.length_toList, hcs1, hv.len, Nat.add_mul]
      rw [Nat.add_mul] at hns
      omega
    have hcs3 : ∀ (j : Nat) (u : Value), us[j]? = some u → W3.cell? (Addr.add ⟨b, 0, none⟩ j) = some u := fun j u hj => by
      have := hcs j u hj
      rw [Addr.add_lit] at this ⊢
      exact (cell_keep (hJ.1.block b hblt hbg) _).trans this
    go_simp
    go_wp2_with (go_big_may; first
      | (refine wpList_sliceFrom chsP.toLsP rfl rfl rfl (l := i) (r := n + m) (run_bounds_l _ (by omega)) (by omega) ?_)
      | (refine wpList_copyRaw chsP.toLsP rfl rfl rfl rfl hg3 (cs := us) (by rw [Nat.min_eq_left (by omega)]; exact hu) hcs3 hu1 (by rw [hC1s, hu]; omega) ?_; intro W4 hg4 hgr4)
      | fail)
    go_ret
    have q4 : Trd (· = g) w W4 := hJ.1.trans (Trd.ofGrown (F := (· = g)) hgr4 fun k hk => by injection hk with hk; exact hk.symm) (fun _ _ h => h)
    refine ⟨_, rfl, RowQ.of hg4 hroom hcm ?_ ?_ ?_, ⟨q4.os, q4.tape, q4.output, q4.size, fun k hk hn => q4.block k hk fun h => hn (by rw [h]; rfl)⟩, .inl rfl⟩
    · simp only [List.size_toArray, List.length_append, List.length_take, List.length_drop, Array.length_toList, hC1s, hu]
      rw [Nat.add_mul] at hns
      omega
    · have := ins_cells (cur := cur.toList) (us := us) (p := i * 1) (q := n * 1) (r := m * 1) his hu (by rw [Array.length_toList, hcs1, ← Nat.add_mul]; exact hns)
      rw [hct] at this
      rw [hC1]
      simp only [Nat.zero_add, Nat.mul_one] at this ⊢
      exact this
    · intro u hu
      rcases List.mem_append.1 hu with h | h
      · rcases List.mem_append.1 h with h | h
        · exact hv.2 u (List.mem_of_mem_take h)
        · exact hu1 u h
      · exact hv.2 u (List.mem_of_mem_drop h)
theorem insert_c (w : World) {v : Value} {n i b m : Nat} {vs us : List Value} (hv : RowQ 37 1 w v n vs) (hi : i ≤ n) (hn : n + m ≤ 1000000) (hm : 0 < m) (hb : w.heap[b]? = some (.cells us.toArray 37 (0, 0))) (hu : us.length = m * 1) (hu1 : ∀ u ∈ us, u.oneCell' = true) (hbg : v.ownBlock ≠ some b) :
    Calls Try.prog 40 #[v, .int .i64 i, .slice (some ⟨b, 0, none⟩) m m] w (RetRow 37 1 w v (n + m) (vs.take (i * 1) ++ us ++ vs.drop (i * 1))) := by
  rcases Nat.lt_or_ge i n with h | h
  · rcases hv.cases with ⟨_, h2, _⟩ | ⟨g, cap, cur, rfl, _, h3, _⟩
    · omega
    · rcases Nat.lt_or_ge cap (n + m) with h4 | h4
      · exact insertGrow_c w hv h hn hm hb hu hu1 h3 h4
      · exact insertFit_c w hv h hn hm hb hu hu1 (fun e => hbg (by rw [e]; rfl)) h4
  · obtain rfl : i = n := by omega
    exact insertEnd_c w hv hn hm hb hu hu1
end Go.Proofs.Yticngbgjfdcnhaa
namespace Go.Proofs.Yticngbgjfdcnhaa
open Go.RowKit
section
variable {P : Program} {T Te : TypeId} {n : Nat} {ops : Array Oper} {rest : List Oper} {o : Oper} {a : Act} {Q : Exit → Act → World → Prop} {w : World} {K : Act → World → Prop}
theorem wpList_slice3Any (hP : LsP P T Te n) {x lo hi mx : Operand} (ho : o.op = .slice T x (some lo) (some hi) (some mx)) (hgd : Region.wanted o (yielded ops a.tmps) = true) {ad : Option Addr} {k c : Nat} (hx : a.eval x = .slice ad k c)
    {l r m : Nat} (hb : (Instr.sliceBounds true k c (some (a.eval lo)) (some (a.eval hi)) (some (a.eval mx))).run P w = .ok (l, r, m) w)
    (h : ∀ ad', wpList P ops Q rest (a.put o.dst (.slice ad' (r - l) (m - l))) w) : wpList P ops Q (o :: rest) a w := by
  refine BigFrame.wpList_want hgd fun K hK => ?_
  obtain ⟨i, hi', hsz⟩ := hP.info
  have hrun : (Instr.slice T (.slice ad k c) (some (a.eval lo)) (some (a.eval hi)) (some (a.eval mx))).run P w = .ok (.slice (if m = l then ad else ad.map (·.add (l * n))) (r - l) (m - l)) w := by
    simp [Instr.slice, run_underlying hP.hT, hb, sizeOf, typeInfo, hi', hsz]
  unfold Oper.wp execOp
  have hat : (Instr.sliceAt T (.slice ad k c) (some (a.eval lo)) (some (a.eval hi)) (some (a.eval mx))).run P w = .ok (.slice (if m = l then ad else ad.map (·.add (l * n))) (r - l) (m - l)) w := by
    rw [show (Instr.sliceAt T (.slice ad k c) (some (a.eval lo)) (some (a.eval hi)) (some (a.eval mx))).run P w = (Instr.slice T (.slice ad k c) (some (a.eval lo)) (some (a.eval hi)) (some (a.eval mx))).run P w by simp [Instr.sliceAt, run_underlying hP.hT]]; exact hrun
  simp only [ho, hx, Option.map_some, Sem.run_bind, Sem.run_pure, Result.andThen_ok, hat]
  exact hK _ _ (h _)
theorem wpList_clearQ (hP : LoP P T Te n) (hz1 : ∀ i z, P.info? Te = some i → i.zero = some z → ∀ u ∈ z.cells.toList, u.oneCell' = true) {x : Operand} (ho : o.op = .call { callee := .builtin .clear, args := #[x], argTypes := #[T] }) (hd : o.dst = none) (hgd : Region.wanted o (yielded ops a.tmps) = true) {ad : Option Addr} {m c : Nat} (hx : a.eval x = .slice ad m c) {g off : Nat} {cur : Array Value} {t : TypeId} (hg : w.heap[g]? = some (.cells cur t (0, 0))) (had : m = 0 ∨ ad = some ⟨g, off, none⟩) (hfit : m = 0 ∨ off + m * n ≤ cur.size)
    (h : ∀ w' cur', w'.heap[g]? = some (.cells cur' t (0, 0)) → cur'.size = cur.size → (m ≠ 0 → cur'.toList.take off = cur.toList.take off) → (m = 0 → cur' = cur) → w.grownBy w' (some g) → wpList P ops Q rest a w') : wpList P ops Q (o :: rest) a w := by
  refine BigFrame.wpList_want hgd fun K hK => ?_
  obtain ⟨w', cur', hr, h1, h2, h3, h4, h5⟩ := run_clearQ hP hz1 w o.type hg had hfit (c := c)
  unfold Oper.wp execOp
  simp only [ho, resolve, invoke, builtin, Sem.run_bind, Sem.run_pure, Result.andThen_ok, List.map_toArray, List.map_cons, List.map_nil, hx, hr]
  refine hK _ _ ?_
  rw [hd]
  exact h w' cur' h1 h2 h3 h4 h5
end
theorem ones_of {t : TypeId} {z0 : Value} (h : (Try.prog.info? t).bind (·.zero) = some z0) (h1 : ∀ u ∈ z0.cells.toList, u.oneCell' = true) : ∀ i z, Try.prog.info? t = some i → i.zero = some z → ∀ u ∈ z.cells.toList, u.oneCell' = true := fun i z hi hz => by
  rw [hi] at h
  simp only [Option.bind_some, hz] at h
  cases h
  exact h1
theorem kys1 : ∀ i z, Try.prog.info? 32 = some i → i.zero = some z → ∀ u ∈ z.cells.toList, u.oneCell' = true := ones_of (z0 := .slice none 0 0) (by kernel_rfl) (fun u hu => by simp [Value.cells] at hu; subst hu; rfl)
theorem chs1 : ∀ i z, Try.prog.info? 37 = some i → i.zero = some z → ∀ u ∈ z.cells.toList, u.oneCell' = true := ones_of (z0 := .slice none 0 0) (by kernel_rfl) (fun u hu => by simp [Value.cells] at hu; subst hu; rfl)
theorem nd1 : ∀ i z, Try.prog.info? 28 = some i → i.zero = some z → ∀ u ∈ z.cells.toList, u.oneCell' = true := ones_of (z0 := .agg #[.slice none 0 0, .slice none 0 0, .slice none 0 0]) (by kernel_rfl) (fun u hu => by simp [Value.cells] at hu; subst hu; rfl)
theorem part_at (g sz l cap : Nat) : ∃ sa : Addr, (if cap = l then (some (⟨g, 0, none⟩ : Addr)) else (some (⟨g, 0, none⟩ : Addr)).map (·.add (l * sz))) = some sa ∧ (cap ≠ l → sa = ⟨g, l * sz, none⟩) := by
  by_cases h : cap = l
  · exact ⟨_, by rw [if_pos h], fun hn => absurd h hn⟩
  · exact ⟨_, by rw [if_neg h]; rfl, fun _ => by simp [Addr.add_lit]⟩
theorem del_cells {cur : List Value} {p q r : Nat} (h1 : p ≤ r) (h2 : r ≤ q) (h3 : q ≤ cur.length) :
    (cur.take p ++ (cur.take q).drop r ++ cur.drop (p + (q - r))).take (p + (q - r)) = (cur.take q).take p ++ (cur.take q).drop r := by
  rw [List.take_append_of_le_length (by simp only [List.length_append, List.length_take, List.length_drop]; omega), List.take_of_length_le (by simp only [List.length_append, List.length_take, List.length_drop]; omega), List.take_take]
  congr 2
  omega
set_option maxRecDepth 100000 in
set_option maxHeartbeats 4000000 in
theorem delete_k (w : World) {v : Value} {n i : Nat} {j : Int} {vs : List Value} (hv : RowQ 32 1 w v n vs) (hi : i < n) (hj : j = (i : Int) + 1) (hn : n ≤ 1000000) :
    Calls Try.prog 34 #[v, .int .i64 i, .int .i64 j] w (RetRow 32 1 w v (n - 1) (vs.take (i * 1) ++ vs.drop ((i + 1) * 1))) := by
  subst hj
  obtain ⟨g, cap, cur, rfl, hg, hnc, hcm, hcs1, hct⟩ : ∃ g cap cur, v = .slice (some ⟨g, 0, none⟩) n cap ∧ w.heap[g]? = some (.cells cur 32 (0, 0)) ∧ n ≤ cap ∧ cap ≤ maxLen ∧ cur.size = cap * 1 ∧ cur.toList.take (n * 1) = vs := by
    rcases hv.cases with ⟨_, h, _⟩ | h
    · omega
    · exact h
  have hz2 : ((i : Int) == (i : Int) + 1) = false := beq_eq_false_iff_ne.2 (by omega)
  have his : i * 1 ≤ n * 1 := Nat.mul_le_mul_right _ (Nat.le_of_lt hi)
  have his1 : (i + 1) * 1 ≤ n * 1 := Nat.mul_le_mul_right _ hi
  have hns : n * 1 ≤ cap * 1 := Nat.mul_le_mul_right _ hnc
  have hdl : (vs.drop ((i + 1) * 1)).length = (n - (i + 1)) * 1 := by rw [List.length_drop, hv.len, Nat.sub_mul]
  obtain ⟨sa, hsa, hsa2⟩ := part_at g 1 (i + 1) cap
  go_enter Try.func34, Try.ntmps34
  go_upto_region 5 with (go_big_may; first
    | (refine wpList_slice3Any kysP.toLsP rfl rfl rfl (l := i) (r := i + 1) (m := n) (run_bounds3 _ rfl (by omega) rfl (by omega) (by omega) (by omega)) ?_; intro _)
    | fail)
  refine wp_region_lnl (K := fun _ _ => True) (by kernel_rfl) (by kernel_rfl) [6, 7] (by kernel_rfl) [lEq (.slice (some ⟨g, 0, none⟩) n cap), lEq (.int .i64 (i : Int)), lEq (.slice (some ⟨g, 0, none⟩) i cap), lEq (.slice (some ⟨g, 0, none⟩) n cap), lEq (.int .i64 ((i : Int) + 1)), lEq (.slice (some sa) (n - (i + 1)) (cap - (i + 1))), lAny, lAny] (fun l W => Trd (· = g) w W ∧ (∀ x ∈ l, x = .slice (some ⟨g, 0, none⟩) (i + (n - (i + 1))) cap) ∧ W.heap[g]? = some (.cells (match l with | [] => cur | _ :: _ => (cur.toList.take (i * 1) ++ vs.drop ((i + 1) * 1) ++ cur.toList.drop (i * 1 + (vs.drop ((i + 1) * 1)).length)).toArray) 32 (0, 0))) (fun l A B h hb => ⟨h.1.trans (Trd.of (F := (· = g)) hb) (fun _ _ h => h), h.2.1, (hb.block _ (Array.getElem?_eq_some_iff.1 h.2.2).1).trans h.2.2⟩) ⟨Trd.refl _ _, by simp, hg⟩
    ⟨?o0, ?o1, ?o2, ?o3, ?o4, ?o5, ?o6, ?o7, trivial⟩ ?fin
  case o0 =>
    refine LnOp.side rfl (by kernel_rfl) (fun A vs w' k hF hT hk hJ hb hu hp hd => ?_)
    have e1 : A.eval (.tmp 0) = .slice (some ⟨g, 0, none⟩) n cap := (hT 0 7 (by simp) rfl).trans (hu 1 7 0 (hb 1 7 rfl (by kernel_rfl)) rfl rfl)
    exact BigFrame.wp_move _ rfl ⟨_, rfl, e1, Below.refl _ _⟩
  case o1 =>
    refine LnOp.side rfl (by kernel_rfl) (fun A vs w' k hF hT hk hJ hb hu hp hd => ?_)
    have e1 : A.eval (.tmp 1) = .int .i64 (i : Int) := hF 1 rfl
    exact BigFrame.wp_move _ rfl ⟨_, rfl, e1, Below.refl _ _⟩
  case o2 =>
    refine LnOp.side rfl (by kernel_rfl) (fun A vs w' k hF hT hk hJ hb hu hp hd => ?_)
    have e1 : A.eval (.tmp 20) = .slice (some ⟨g, 0, none⟩) n cap := (hT 20 0 (by simp) rfl).trans (hd ⟨0, .data⟩ (by simp) rfl rfl)
    have e2 : A.eval (.tmp 21) = .int .i64 (i : Int) := (hT 21 1 (by simp) rfl).trans (hd ⟨1, .data⟩ (by simp) rfl rfl)
    exact wp_sliceTo kysP.toLsP rfl (e1) (congrArg some e2) (run_bounds_h _ (by omega)) ⟨_, rfl, rfl, Below.refl _ _⟩
  case o3 =>
    refine LnOp.side rfl (by kernel_rfl) (fun A vs w' k hF hT hk hJ hb hu hp hd => ?_)
    have e1 : A.eval (.tmp 0) = .slice (some ⟨g, 0, none⟩) n cap := (hT 0 7 (by simp) rfl).trans (hu 1 7 0 (hb 1 7 rfl (by kernel_rfl)) rfl rfl)
    exact BigFrame.wp_move _ rfl ⟨_, rfl, e1, Below.refl _ _⟩
  case o4 =>
    refine LnOp.side rfl (by kernel_rfl) (fun A vs w' k hF hT hk hJ hb hu hp hd => ?_)
    have e1 : A.eval (.tmp 2) = .int .i64 ((i : Int) + 1) := hF 2 rfl
    exact BigFrame.wp_move _ rfl ⟨_, rfl, e1, Below.refl _ _⟩
  case o5 =>
    refine LnOp.side rfl (by kernel_rfl) (fun A vs w' k hF hT hk hJ hb hu hp hd => ?_)
    have e1 : A.eval (.tmp 23) = .slice (some ⟨g, 0, none⟩) n cap := (hT 23 3 (by simp) rfl).trans (hd ⟨3, .data⟩ (by simp) rfl rfl)
    have e2 : A.eval (.tmp 24) = .int .i64 ((i : Int) + 1) := (hT 24 4 (by simp) rfl).trans (hd ⟨4, .data⟩ (by simp) rfl rfl)
    exact wp_sliceRaw kysP.toLsP rfl (e1) (congrArg some e2) rfl (run_bounds_l' (l := i + 1) _ (by omega) (by omega)) ⟨_, rfl, by rw [hsa]; rfl, Below.refl _ _⟩
  case o6 =>
    refine LnOp.line 0 rfl rfl (fun A va w' hF hT hJ hu hd => ?_)
    have e1 : A.eval (.tmp 22) = .slice (some ⟨g, 0, none⟩) i cap := (hT 22 2 (by simp) rfl).trans (hd ⟨2, .data⟩ (by simp) rfl rfl)
    have e2 : A.eval (.tmp 25) = .slice (some sa) (n - (i + 1)) (cap - (i + 1)) := (hT 25 5 (by simp) rfl).trans (hd ⟨5, .data⟩ (by simp) rfl rfl)
    refine wp_appFit kysP.toLsP rfl e1 e2 hJ.2.2 (cs := vs.drop ((i + 1) * 1)) (by rw [hdl]) (fun j u hj => ?_) (fun u hu => hv.2 u (List.mem_of_mem_drop hu)) (by omega) ?_ ?_
    · rw [List.getElem?_drop, ← hct, List.getElem?_take] at hj
      split at hj
      · rename_i hlt
        rw [hsa2 (fun e => by rw [← Nat.not_le] at hlt; exact hlt (by have : n * 1 ≤ (i + 1) * 1 := Nat.mul_le_mul_right _ (by omega); omega)), Addr.add_lit]
        have h5 : w'.heap[g]? = some (.cells cur 32 (0, 0)) := hJ.2.2
        simpa [World.cell?, h5, ← Array.getElem?_toList] using hj
      · cases hj
    · show i * 1 + (vs.drop ((i + 1) * 1)).length ≤ cur.size
      rw [hcs1, hdl, ← Nat.add_mul]
      exact Nat.mul_le_mul_right _ (by omega)
    · intro W3 hg3 hgr3
      exact ⟨_, rfl, ⟨hJ.1.trans (Trd.ofGrown (F := (· = g)) hgr3 fun k hk => by injection hk with hk; exact hk.symm) (fun _ _ h => h), fun x hx => by simpa using hx, hg3⟩, trivial⟩
  case o7 =>
    refine LnOp.line 1 rfl rfl (fun A va w' hF hT hJ hu hd => ?_)
    have x1 : A.eval (.tmp 26) = va 6 := hT 26 6 (by simp) rfl
    refine BigFrame.wp_assign _ rfl ⟨_, rfl, ⟨hJ.1, fun y hy => ?_, hJ.2.2⟩, trivial⟩
    rcases List.mem_append.1 hy with h | h
    · exact hJ.2.1 y h
    · rw [List.mem_singleton.1 h]
      exact x1.trans (hJ.2.1 _ (by simp))
  case fin =>
    intro vs1 W3 hJ hG
    have e0 : vs1 0 = .slice (some ⟨g, 0, none⟩) n cap := hG 0 (by decide) rfl
    have e1 : vs1 1 = .int .i64 (i : Int) := hG 1 (by decide) rfl
    have e2 : vs1 2 = .slice (some ⟨g, 0, none⟩) i cap := hG 2 (by decide) rfl
    have e3 : vs1 3 = .slice (some ⟨g, 0, none⟩) n cap := hG 3 (by decide) rfl
    have e4 : vs1 4 = .int .i64 ((i : Int) + 1) := hG 4 (by decide) rfl
    have e5 : vs1 5 = .slice (some sa) (n - (i + 1)) (cap - (i + 1)) := hG 5 (by decide) rfl
    have e6 : vs1 6 = .slice (some ⟨g, 0, none⟩) (i + (n - (i + 1))) cap := hJ.2.1 _ (by simp)
    have e7 : vs1 7 = .slice (some ⟨g, 0, none⟩) (i + (n - (i + 1))) cap := hJ.2.1 _ (by simp)
    simp only [putAll, e0, e1, e2, e3, e4, e5, e6, e7]
    clear hG e0 e1 e2 e3 e4 e5 e6 e7
    obtain ⟨C1, hC1⟩ : ∃ C1 : Array Value, C1 = (cur.toList.take (i * 1) ++ vs.drop ((i + 1) * 1) ++ cur.toList.drop (i * 1 + (vs.drop ((i + 1) * 1)).length)).toArray := ⟨_, rfl⟩
    have hg3 : W3.heap[g]? = some (.cells C1 32 (0, 0)) := by rw [hC1]; exact hJ.2.2
    have hC1s : C1.size = cap * 1 := by
      rw [hC1]
      simp only [List.size_toArray, List.length_append, List.length_take, List.length_drop, Array.length_toList, hcs1, hv.len, Nat.add_mul]
      rw [Nat.add_mul] at his1
      omega
    obtain ⟨n1, hn1⟩ : ∃ n1, n1 = i + (n - (i + 1)) := ⟨_, rfl⟩
    have hn2 : n ≤ n1 + 1 := by omega
    have hn3 : n1 + 1 ≤ n := by omega
    rw [← hn1]
    clear hn1
    go_simp
    go_wp2_with (go_big_may; first
      | (refine wpList_sliceFrom kysP.toLsP rfl rfl rfl (l := n1) (r := n) (run_bounds_lh _ (by omega) (by omega)) (by omega) ?_)
      | (refine wpList_clearQ kysP kys1 rfl rfl rfl rfl hg3 (.inr rfl) (.inr (by rw [hC1s]; omega)) ?_; intro W4 C4 hg4 hs4 ht4 _ hgr4)
      | fail)
    go_ret
    have q4 : Trd (· = g) w W4 := hJ.1.trans (Trd.ofGrown (F := (· = g)) hgr4 fun k hk => by injection hk with hk; exact hk.symm) (fun _ _ h => h)
    refine ⟨_, rfl, ?_, ⟨q4.os, q4.tape, q4.output, q4.size, fun k hk hn => q4.block k hk fun h => hn (by rw [h]; rfl)⟩, .inl rfl⟩
    obtain rfl : n - 1 = n1 := by omega
    refine RowQ.of hg4 (by omega) hcm (by rw [hs4, hC1s]) ?_ ?_
    · have h5 := ht4 (by omega)
      have h6 : C4.toList.take ((n - 1) * 1) = C1.toList.take ((n - 1) * 1) := by
        rw [← Nat.zero_add ((n - 1) * 1)]
        first
          | exact h5
          | simpa using h5
      rw [h6, hC1]
      have := del_cells (cur := cur.toList) (p := i * 1) (q := n * 1) (r := (i + 1) * 1) (Nat.mul_le_mul_right _ (by omega)) his1 (by rw [Array.length_toList, hcs1]; exact hns)
      rw [hct, ← Nat.sub_mul] at this
      rw [hdl]
      have e : (n - 1) * 1 = i * 1 + (n - (i + 1)) * 1 := by rw [← Nat.add_mul]; congr 1; omega
      rw [e]
      exact this
    · intro u hu
      rcases List.mem_append.1 hu with h | h
      · exact hv.2 u (List.mem_of_mem_take h)
      · exact hv.2 u (List.mem_of_mem_drop h)
set_option maxRecDepth 100000 in
set_option maxHeartbeats 4000000 in
theorem delete_c (w : World) {v : Value} {n i : Nat} {j : Int} {vs : List Value} (hv : RowQ 37 1 w v n vs) (hi : i < n) (hj : j = (i : Int) + 1) (hn : n ≤ 1000000) :
    Calls Try.prog 35 #[v, .int .i64 i, .int .i64 j] w (RetRow 37 1 w v (n - 1) (vs.take (i * 1) ++ vs.drop ((i + 1) * 1))) := by
  subst hj
  obtain ⟨g, cap, cur, rfl, hg, hnc, hcm, hcs1, hct⟩ : ∃ g cap cur, v = .slice (some ⟨g, 0, none⟩) n cap ∧ w.heap[g]? = some (.cells cur 37 (0, 0)) ∧ n ≤ cap ∧ cap ≤ maxLen ∧ cur.size = cap * 1 ∧ cur.toList.take (n * 1) = vs := by
    rcases hv.cases with ⟨_, h, _⟩ | h
    · omega
    · exact h
  have hz2 : ((i : Int) == (i : Int) + 1) = false := beq_eq_false_iff_ne.2 (by omega)
  have his : i * 1 ≤ n * 1 := Nat.mul_le_mul_right _ (Nat.le_of_lt hi)
  have his1 : (i + 1) * 1 ≤ n * 1 := Nat.mul_le_mul_right _ hi
  have hns : n * 1 ≤ cap * 1 := Nat.mul_le_mul_right _ hnc
  have hdl : (vs.drop ((i + 1) * 1)).length = (n - (i + 1)) * 1 := by rw [List.length_drop, hv.len, Nat.sub_mul]
  obtain ⟨sa, hsa, hsa2⟩ := part_at g 1 (i + 1) cap
  go_enter Try.func35, Try.ntmps35
  go_upto_region 5 with (go_big_may; first
    | (refine wpList_slice3Any chsP.toLsP rfl rfl rfl (l := i) (r := i + 1) (m := n) (run_bounds3 _ rfl (by omega) rfl (by omega) (by omega) (by omega)) ?_; intro _)
    | fail)
  refine wp_region_lnl (K := fun _ _ => True) (by kernel_rfl) (by kernel_rfl) [6, 7] (by kernel_rfl) [lEq (.slice (some ⟨g, 0, none⟩) n cap), lEq (.int .i64 (i : Int)), lEq (.slice (some ⟨g, 0, none⟩) i cap), lEq (.slice (some ⟨g, 0, none⟩) n cap), lEq (.int .i64 ((i : Int) + 1)), lEq (.slice (some sa) (n - (i + 1)) (cap - (i + 1))), lAny, lAny] (fun l W => Trd (· = g) w W ∧ (∀ x ∈ l, x = .slice (some ⟨g, 0, none⟩) (i + (n - (i + 1))) cap) ∧ W.heap[g]? = some (.cells (match l with | [] => cur | _ :: _ => (cur.toList.take (i * 1) ++ vs.drop ((i + 1) * 1) ++ cur.toList.drop (i * 1 + (vs.drop ((i + 1) * 1)).length)).toArray) 37 (0, 0))) (fun l A B h hb => ⟨h.1.trans (Trd.of (F := (· = g)) hb) (fun _ _ h => h), h.2.1, (hb.block _ (Array.getElem?_eq_some_iff.1 h.2.2).1).trans h.2.2⟩) ⟨Trd.refl _ _, by simp, hg⟩
    ⟨?o0, ?o1, ?o2, ?o3, ?o4, ?o5, ?o6, ?o7, trivial⟩ ?fin
  case o0 =>
    refine LnOp.side rfl (by kernel_rfl) (fun A vs w' k hF hT hk hJ hb hu hp hd => ?_)
    have e1 : A.eval (.tmp 0) = .slice (some ⟨g, 0, none⟩) n cap := (hT 0 7 (by simp) rfl).trans (hu 1 7 0 (hb 1 7 rfl (by kernel_rfl)) rfl rfl)
    exact BigFrame.wp_move _ rfl ⟨_, rfl, e1, Below.refl _ _⟩
  case o1 =>
    refine LnOp.side rfl (by kernel_rfl) (fun A vs w' k hF hT hk hJ hb hu hp hd => ?_)
    have e1 : A.eval (.tmp 1) = .int .i64 (i : Int) := hF 1 rfl
    exact BigFrame.wp_move _ rfl ⟨_, rfl, e1, Below.refl _ _⟩
  case o2 =>
    refine LnOp.side rfl (by kernel_rfl) (fun A vs w' k hF hT hk hJ hb hu hp hd => ?_)
    have e1 : A.eval (.tmp 20) = .slice (some ⟨g, 0, none⟩) n cap := (hT 20 0 (by simp) rfl).trans (hd ⟨0, .data⟩ (by simp) rfl rfl)
    have e2 : A.eval (.tmp 21) = .int .i64 (i : Int) := (hT 21 1 (by simp) rfl).trans (hd ⟨1, .data⟩ (by simp) rfl rfl)
    exact wp_sliceTo chsP.toLsP rfl (e1) (congrArg some e2) (run_bounds_h _ (by omega)) ⟨_, rfl, rfl, Below.refl _ _⟩
  case o3 =>
    refine LnOp.side rfl (by kernel_rfl) (fun A vs w' k hF hT hk hJ hb hu hp hd => ?_)
    have e1 : A.eval (.tmp 0) = .slice (some ⟨g, 0, none⟩) n cap := (hT 0 7 (by simp) rfl).trans (hu 1 7 0 (hb 1 7 rfl (by kernel_rfl)) rfl rfl)
    exact BigFrame.wp_move _ rfl ⟨_, rfl, e1, Below.refl _ _⟩
  case o4 =>
    refine LnOp.side rfl (by kernel_rfl) (fun A vs w' k hF hT hk hJ hb hu hp hd => ?_)
    have e1 : A.eval (.tmp 2) = .int .i64 ((i : Int) + 1) := hF 2 rfl
    exact BigFrame.wp_move _ rfl ⟨_, rfl, e1, Below.refl _ _⟩
  case o5 =>
    refine LnOp.side rfl (by kernel_rfl) (fun A vs w' k hF hT hk hJ hb hu hp hd => ?_)
    have e1 : A.eval (.tmp 23) = .slice (some ⟨g, 0, none⟩) n cap := (hT 23 3 (by simp) rfl).trans (hd ⟨3, .data⟩ (by simp) rfl rfl)
    have e2 : A.eval (.tmp 24) = .int .i64 ((i : Int) + 1) := (hT 24 4 (by simp) rfl).trans (hd ⟨4, .data⟩ (by simp) rfl rfl)
    exact wp_sliceRaw chsP.toLsP rfl (e1) (congrArg some e2) rfl (run_bounds_l' (l := i + 1) _ (by omega) (by omega)) ⟨_, rfl, by rw [hsa]; rfl, Below.refl _ _⟩
  case o6 =>
    refine LnOp.line 0 rfl rfl (fun A va w' hF hT hJ hu hd => ?_)
    have e1 : A.eval (.tmp 22) = .slice (some ⟨g, 0, none⟩) i cap := (hT 22 2 (by simp) rfl).trans (hd ⟨2, .data⟩ (by simp) rfl rfl)
    have e2 : A.eval (.tmp 25) = .slice (some sa) (n - (i + 1)) (cap - (i + 1)) := (hT 25 5 (by simp) rfl).trans (hd ⟨5, .data⟩ (by simp) rfl rfl)
    refine wp_appFit chsP.toLsP rfl e1 e2 hJ.2.2 (cs := vs.drop ((i + 1) * 1)) (by rw [hdl]) (fun j u hj => ?_) (fun u hu => hv.2 u (List.mem_of_mem_drop hu)) (by omega) ?_ ?_
    · rw [List.getElem?_drop, ← hct, List.getElem?_take] at hj
      split at hj
      · rename_i hlt
        rw [hsa2 (fun e => by rw [← Nat.not_le] at hlt; exact hlt (by have : n * 1 ≤ (i + 1) * 1 := Nat.mul_le_mul_right _ (by omega); omega)), Addr.add_lit]
        have h5 : w'.heap[g]? = some (.cells cur 37 (0, 0)) := hJ.2.2
        simpa [World.cell?, h5, ← Array.getElem?_toList] using hj
      · cases hj
    · show i * 1 + (vs.drop ((i + 1) * 1)).length ≤ cur.size
      rw [hcs1, hdl, ← Nat.add_mul]
      exact Nat.mul_le_mul_right _ (by omega)
    · intro W3 hg3 hgr3
      exact ⟨_, rfl, ⟨hJ.1.trans (Trd.ofGrown (F := (· = g)) hgr3 fun k hk => by injection hk with hk; exact hk.symm) (fun _ _ h => h), fun x hx => by simpa using hx, hg3⟩, trivial⟩
  case o7 =>
    refine LnOp.line 1 rfl rfl (fun A va w' hF hT hJ hu hd => ?_)
    have x1 : A.eval (.tmp 26) = va 6 := hT 26 6 (by simp) rfl
    refine BigFrame.wp_assign _ rfl ⟨_, rfl, ⟨hJ.1, fun y hy => ?_, hJ.2.2⟩, trivial⟩
    rcases List.mem_append.1 hy with h | h
    · exact hJ.2.1 y h
    · rw [List.mem_singleton.1 h]
      exact x1.trans (hJ.2.1 _ (by simp))
  case fin =>
    intro vs1 W3 hJ hG
    have e0 : vs1 0 = .slice (some ⟨g, 0, none⟩) n cap := hG 0 (by decide) rfl
    have e1 : vs1 1 = .int .i64 (i : Int) := hG 1 (by decide) rfl
    have e2 : vs1 2 = .slice (some ⟨g, 0, none⟩) i cap := hG 2 (by decide) rfl
    have e3 : vs1 3 = .slice (some ⟨g, 0, none⟩) n cap := hG 3 (by decide) rfl
    have e4 : vs1 4 = .int .i64 ((i : Int) + 1) := hG 4 (by decide) rfl
    have e5 : vs1 5 = .slice (some sa) (n - (i + 1)) (cap - (i + 1)) := hG 5 (by decide) rfl
    have e6 : vs1 6 = .slice (some ⟨g, 0, none⟩) (i + (n - (i + 1))) cap := hJ.2.1 _ (by simp)
    have e7 : vs1 7 = .slice (some ⟨g, 0, none⟩) (i + (n - (i + 1))) cap := hJ.2.1 _ (by simp)
    simp only [putAll, e0, e1, e2, e3, e4, e5, e6, e7]
    clear hG e0 e1 e2 e3 e4 e5 e6 e7
    obtain ⟨C1, hC1⟩ : ∃ C1 : Array Value, C1 = (cur.toList.take (i * 1) ++ vs.drop ((i + 1) * 1) ++ cur.toList.drop (i * 1 + (vs.drop ((i + 1) * 1)).length)).toArray := ⟨_, rfl⟩
    have hg3 : W3.heap[g]? = some (.cells C1 37 (0, 0)) := by rw [hC1]; exact hJ.2.2
    have hC1s : C1.size = cap * 1 := by
      rw [hC1]
      simp only [List.size_toArray, List.length_append, List.length_take, List.length_drop, Array.length_toList, hcs1, hv.len, Nat.add_mul]
      rw [Nat.add_mul] at his1
      omega
    obtain ⟨n1, hn1⟩ : ∃ n1, n1 = i + (n - (i + 1)) := ⟨_, rfl⟩
    have hn2 : n ≤ n1 + 1 := by omega
    have hn3 : n1 + 1 ≤ n := by omega
    rw [← hn1]
    clear hn1
    go_simp
    go_wp2_with (go_big_may; first
      | (refine wpList_sliceFrom chsP.toLsP rfl rfl rfl (l := n1) (r := n) (run_bounds_lh _ (by omega) (by omega)) (by omega) ?_)
      | (refine wpList_clearQ chsP chs1 rfl rfl rfl rfl hg3 (.inr rfl) (.inr (by rw [hC1s]; omega)) ?_; intro W4 C4 hg4 hs4 ht4 _ hgr4)
      | fail)
    go_ret
    have q4 : Trd (· = g) w W4 := hJ.1.trans (Trd.ofGrown (F := (· = g)) hgr4 fun k hk => by injection hk with hk; exact hk.symm) (fun _ _ h => h)
    refine ⟨_, rfl, ?_, ⟨q4.os, q4.tape, q4.output, q4.size, fun k hk hn => q4.block k hk fun h => hn (by rw [h]; rfl)⟩, .inl rfl⟩
    obtain rfl : n - 1 = n1 := by omega
    refine RowQ.of hg4 (by omega) hcm (by rw [hs4, hC1s]) ?_ ?_
    · have h5 := ht4 (by omega)
      have h6 : C4.toList.take ((n - 1) * 1) = C1.toList.take ((n - 1) * 1) := by
        rw [← Nat.zero_add ((n - 1) * 1)]
        first
          | exact h5
          | simpa using h5
      rw [h6, hC1]
      have := del_cells (cur := cur.toList) (p := i * 1) (q := n * 1) (r := (i + 1) * 1) (Nat.mul_le_mul_right _ (by omega)) his1 (by rw [Array.length_toList, hcs1]; exact hns)
      rw [hct, ← Nat.sub_mul] at this
      rw [hdl]
      have e : (n - 1) * 1 = i * 1 + (n - (i + 1)) * 1 := by rw [← Nat.add_mul]; congr 1; omega
      rw [e]
      exact this
    · intro u hu
      rcases List.mem_append.1 hu with h | h
      · exact hv.2 u (List.mem_of_mem_take h)
      · exact hv.2 u (List.mem_of_mem_drop h)
end Go.Proofs.Yticngbgjfdcnhaa
namespace Go.Proofs.Yticngbgjfdcnhaa
open Go.RowKit
def SrcC (sz : Nat) (w : World) (ad : Option Addr) (m : Nat) (cs : List Value) : Prop :=
  cs.length = m * sz ∧ (ad = none → m = 0) ∧ (∀ p, ad = some p → ∀ j u, cs[j]? = some u → w.cell? (p.add j) = some u) ∧ ∀ u ∈ cs, u.oneCell' = true
section
variable {Te : TypeId} {sz n m : Nat} {w w' : World} {ad : Option Addr} {cs vs : List Value} {v : Value}
theorem SrcC.below (h : SrcC sz w ad m cs) (hb : Below w.heap.size w w') : SrcC sz w' ad m cs :=
  ⟨h.1, h.2.1, fun p hp j u hj => by
    have h1 := h.2.2.1 p hp j u hj
    have h2 : (p.add j).block < w.heap.size := World.block_lt_of_cell? w _ h1
    exact (World.cell?_of_block (w := w) (hb.block _ h2)).trans h1, h.2.2.2⟩
theorem RowQ.part (h : RowQ Te sz w v n vs) {l r : Nat} (hl : l ≤ r) (hr : r ≤ n) : ∃ ad c, v = .slice ad n c ∧ n ≤ c ∧ SrcC sz w (if c = l then ad else ad.map (·.add (l * sz))) (r - l) ((vs.take (r * sz)).drop (l * sz)) := by
  have hlen : ((vs.take (r * sz)).drop (l * sz)).length = (r - l) * sz := by
    rw [List.length_drop, List.length_take, h.len, Nat.min_eq_left (Nat.mul_le_mul_right _ hr), Nat.sub_mul]
  have h1 : ∀ u ∈ (vs.take (r * sz)).drop (l * sz), u.oneCell' = true := fun u hu => h.2 u (List.mem_of_mem_take (List.mem_of_mem_drop hu))
  rcases h.cases with ⟨rfl, rfl, rfl⟩ | ⟨g, cap, cur, rfl, hg, hnc, hcm, hcs, hct⟩
  · obtain rfl : r = 0 := by omega
    obtain rfl : l = 0 := by omega
    exact ⟨none, 0, rfl, Nat.le_refl _, hlen, fun _ => rfl, fun p hp => by simp at hp, h1⟩
  · refine ⟨_, cap, rfl, hnc, hlen, fun hn => by split at hn <;> simp at hn, fun p hp j u hj => ?_, h1⟩
    rw [List.getElem?_drop, List.getElem?_take] at hj
    split at hj
    · rename_i hlt
      have hne : ¬ cap = l := fun e => by
        have : r * sz ≤ l * sz := Nat.mul_le_mul_right _ (by omega)
        omega
      rw [if_neg hne] at hp
      simp only [Option.map_some, Addr.add_lit] at hp
      injection hp with hp
      subst hp
      rw [Addr.add_lit, Nat.zero_add]
      exact h.cell rfl hj
    · cases hj
theorem RowQ.src (h : RowQ Te sz w v n vs) : ∃ ad c, v = .slice ad n c ∧ n ≤ c ∧ SrcC sz w ad n vs := by
  rcases h.cases with ⟨rfl, rfl, rfl⟩ | ⟨g, cap, cur, rfl, hg, hnc, hcm, hcs, hct⟩
  · exact ⟨none, 0, rfl, Nat.le_refl _, by simp, fun _ => rfl, fun p hp => by simp at hp, fun _ h => by cases h⟩
  · refine ⟨_, cap, rfl, hnc, h.len, (fun hn => by cases hn), fun p hp j u hj => ?_, h.2⟩
    injection hp with hp
    subst hp
    rw [Addr.add_lit, Nat.zero_add]
    exact h.cell rfl hj
end
def RowNew (Te : TypeId) (sz : Nat) (w : World) (v : Value) (n : Nat) (vs : List Value) (W : World) : Prop := RowQ Te sz W v n vs ∧ (∀ k, v.ownBlock = some k → w.heap.size ≤ k) ∧ Below w.heap.size w W
def RetNew (Te : TypeId) (sz : Nat) (w : World) (n : Nat) (vs : List Value) (e : Ending) (W : World) : Prop := ∃ v, e = .returned v ∧ RowNew Te sz w v n vs W
section
variable {Te : TypeId} {sz n n' : Nat} {w W W' : World} {v v' : Value} {vs vs' : List Value}
theorem RowNew.nil (Te : TypeId) (sz : Nat) {w W : World} (hb : Below w.heap.size w W) : RowNew Te sz w (.slice none 0 0) 0 [] W := ⟨RowQ.nil _ _ _, (fun k h => by cases h), hb⟩
theorem RowNew.to (h : RowNew Te sz w v n vs W) (h2 : RowTo Te sz W v n' vs' v' W') : RowNew Te sz w v' n' vs' W' :=
  ⟨h2.1, fun k hk => by
    rcases h2.2.2 with h3 | ⟨q, h3, h4⟩
    · exact h.2.1 k (h3 ▸ hk)
    · rw [h3] at hk; injection hk with hk; subst hk; exact Nat.le_trans h.2.2.size h4, h.2.2.grown h2.2.1 h.2.2.size h.2.1⟩
theorem RowNew.below (h : RowNew Te sz w v n vs W) (hb : Below W.heap.size W W') : RowNew Te sz w v n vs W' := ⟨h.1.below hb, h.2.1, h.2.2.trans (hb.mono h.2.2.size)⟩
end
section
variable {P : Program} {T Te : TypeId} {n : Nat} {ops : Array Oper} {rest : List Oper} {o : Oper} {a : Act} {Q : Exit → Act → World → Prop} {w : World} {K : Act → World → Prop}
theorem wpList_buildNil (hP : LsP P T Te n) (ho : o.op = .buildSlice T 0 #[]) (hgd : Region.wanted o (yielded ops a.tmps) = true)
    (h : ∀ w', RowQ Te n w' (.slice (some ⟨w.heap.size, 0, none⟩) 0 0) 0 [] → Below w.heap.size w w' → wpList P ops Q rest (a.put o.dst (.slice (some ⟨w.heap.size, 0, none⟩) 0 0)) w') : wpList P ops Q (o :: rest) a w := by
  refine BigFrame.wpList_want hgd fun K hK => ?_
  obtain ⟨i, hi, hsz⟩ := hP.info
  have hrun : (Instr.buildSlice T 0 #[]).run P w = .ok (.slice (some ⟨w.heap.size, 0, none⟩) 0 0) (w.alloc (.cells #[] Te)) := by
    simp [Instr.buildSlice, run_underlying hP.hT, sizeOf, typeInfo, hi, Instr.fill, newRow, show Array.range 0 = #[] from rfl]
  unfold Oper.wp execOp
  simp only [ho, Sem.run_bind, Sem.run_pure, Result.andThen_ok, hrun, List.map_toArray, List.map_nil]
  refine hK _ _ (h _ (RowQ.of (cur := #[]) (by simp only [World.alloc, Array.getElem?_push_size]) (Nat.le_refl _) (by unfold maxLen; omega) (by simp) (by simp) (fun _ h => by cases h)) ((Below.refl _ _).alloc (Nat.le_refl _) _))
theorem run_appS (hP : LoP P T Te n) (h0 : 0 < n) (w : World) (ty : TypeId) {v : Value} {k : Nat} {vs : List Value} (hv : RowQ Te n w v k vs) {ad : Option Addr} {m c : Nat} {cs : List Value} (hs : SrcC n w ad m cs) (hlen : k + m ≤ 1073741824) :
    ∃ v' w', (Builtin.append_ #[T, T] ty #[v, .slice ad m c]).run P w = .ok v' w' ∧ RowTo Te n w v (k + m) (vs ++ cs) v' w' := by
  cases ad with
  | some p => exact run_appQ hP h0 w ty hv hs.1 (hs.2.2.1 p rfl) hs.2.2.2 hlen
  | none =>
    obtain rfl := hs.2.1 rfl
    obtain rfl : cs = [] := List.eq_nil_of_length_eq_zero (by rw [hs.1, Nat.zero_mul])
    obtain ⟨i, z, hi, _⟩ := hP.all
    obtain ⟨a, c', rfl, h1, _⟩ := hv.shape
    refine ⟨_, w, run_append_nothing w T T ty Te i hP.hT hi a k c' h1 _ (Src.ofNil w hP.hT c), ?_⟩
    rw [List.append_nil, Nat.add_zero]
    exact ⟨hv, ⟨rfl, rfl, rfl, Nat.le_refl _, fun _ _ _ => rfl⟩, .inl rfl⟩
theorem wp_appS (hP : LoP P T Te n) (h0 : 0 < n) {s x : Operand} (ho : o.op = .call { callee := .builtin .append, args := #[s, x], argTypes := #[T, T] }) {v : Value} {k : Nat} {vs : List Value} (hs : a.eval s = v) (hv : RowQ Te n w v k vs) {ad : Option Addr} {m c : Nat} {cs : List Value} (hx : a.eval x = .slice ad m c)
    (hsr : SrcC n w ad m cs) (hlen : k + m ≤ 1073741824)
    (h : ∀ ad cap w', RowTo Te n w v (k + m) (vs ++ cs) (.slice ad (k + m) cap) w' → K (a.put o.dst (.slice ad (k + m) cap)) w') : o.wp P a w K Q := by
  obtain ⟨v', w', hrun, h2⟩ := run_appS hP h0 w o.type hv hsr hlen (c := c)
  obtain ⟨ad, cap, rfl, _⟩ := h2.1.shape
  unfold Oper.wp execOp
  simp only [ho, resolve, invoke, builtin, Sem.run_bind, Sem.run_pure, Result.andThen_ok, List.map_toArray, List.map_cons, List.map_nil, hs, hx, hrun]
  exact h _ _ _ h2
theorem wpList_appS (hP : LoP P T Te n) (h0 : 0 < n) {s x : Operand} (ho : o.op = .call { callee := .builtin .append, args := #[s, x], argTypes := #[T, T] }) (hgd : Region.wanted o (yielded ops a.tmps) = true) {v : Value} {k : Nat} {vs : List Value} (hs : a.eval s = v) (hv : RowQ Te n w v k vs) {ad : Option Addr} {m c : Nat} {cs : List Value} (hx : a.eval x = .slice ad m c)
    (hsr : SrcC n w ad m cs) (hlen : k + m ≤ 1073741824)
    (h : ∀ ad cap w', RowTo Te n w v (k + m) (vs ++ cs) (.slice ad (k + m) cap) w' → wpList P ops Q rest (a.put o.dst (.slice ad (k + m) cap)) w') : wpList P ops Q (o :: rest) a w :=
  BigFrame.wpList_want hgd fun _ hK => wp_appS hP h0 ho hs hv hx hsr hlen fun ad cap w' h2 => hK _ _ (h ad cap w' h2)
theorem wpList_slicePart (hP : LsP P T Te n) {x : Operand} {lo hi : Option Operand} (ho : o.op = .slice T x lo hi none) (hgd : Region.wanted o (yielded ops a.tmps) = true) {v : Value} {k : Nat} {vs : List Value} (hv : RowQ Te n w v k vs) (hx : a.eval x = v)
    {l r : Nat} (hl : l ≤ r) (hr : r ≤ k) (hb : ∀ c, k ≤ c → (Instr.sliceBounds true k c (lo.map a.eval) (hi.map a.eval) none).run P w = .ok (l, r, c) w)
    (h : ∀ ad' c', SrcC n w ad' (r - l) ((vs.take (r * n)).drop (l * n)) → wpList P ops Q rest (a.put o.dst (.slice ad' (r - l) c')) w) : wpList P ops Q (o :: rest) a w := by
  obtain ⟨ad, c, rfl, hnc, hs⟩ := hv.part hl hr
  exact wpList_sliceRaw hP ho hgd hx (hb c hnc) (h _ _ hs)
theorem wpList_sliceNil (hP : LsP P T Te n) {x : Operand} {hi : Option Operand} (ho : o.op = .slice T x none hi none) (hgd : Region.wanted o (yielded ops a.tmps) = true) (hx : a.eval x = .slice none 0 0)
    (hb : (Instr.sliceBounds true 0 0 none (hi.map a.eval) none).run P w = .ok (0, 0, 0) w)
    (h : wpList P ops Q rest (a.put o.dst (.slice none 0 0)) w) : wpList P ops Q (o :: rest) a w :=
  wpList_sliceRaw hP ho hgd hx hb (by simpa using h)
end
structure Pc where
  ad : Option Addr
  m : Nat
  c : Nat
  cs : List Value
def Pc.v (p : Pc) : Value := .slice p.ad p.m p.c
def sumC (ps : List Pc) : Nat := (ps.map (·.m)).sum
def allC (ps : List Pc) : List Value := (ps.map (·.cs)).flatten
theorem sumC_take {ps : List Pc} {k : Nat} (h : k < ps.length) : sumC (ps.take (k + 1)) = sumC (ps.take k) + ps[k].m := by
  unfold sumC
  rw [List.take_add_one, List.getElem?_eq_getElem h, Option.toList_some, List.map_append, List.sum_append]
  simp only [List.map_cons, List.map_nil, List.sum_cons, List.sum_nil, Nat.add_zero]
theorem allC_take {ps : List Pc} {k : Nat} (h : k < ps.length) : allC (ps.take (k + 1)) = allC (ps.take k) ++ ps[k].cs := by
  unfold allC
  rw [List.take_add_one, List.getElem?_eq_getElem h, Option.toList_some, List.map_append, List.flatten_append]
  simp only [List.map_cons, List.map_nil, List.flatten_cons, List.flatten_nil, List.append_nil]
theorem sumC_le {ps : List Pc} : ∀ (k : Nat), sumC (ps.take k) ≤ sumC ps := fun k => by
  have : sumC ps = sumC (ps.take k) + sumC (ps.drop k) := by
    unfold sumC
    rw [← List.sum_append, ← List.map_append, List.take_append_drop]
  omega
set_option maxRecDepth 100000 in
set_option maxHeartbeats 2000000 in
theorem clone_k (w : World) {ad : Option Addr} {m c : Nat} {cs : List Value} (hs : SrcC 1 w ad m cs) (hm : m ≤ 1000000) :
    Calls Try.prog 80 #[.slice ad m c] w (RetNew 32 1 w m cs) := by
  have he := fun (w : World) (ad : Option Addr) (n c : Nat) => Lib.run_eql_slice_nil (P := Try.prog) w 24 32 ad n c 0 0 kysP.hT
  cases ad with
  | none =>
    obtain rfl := hs.2.1 rfl
    obtain rfl : cs = [] := List.eq_nil_of_length_eq_zero (by rw [hs.1, Nat.zero_mul])
    go_enter Try.func80, Try.ntmps80
    go_wp2
    go_ret
    exact ⟨_, rfl, RowNew.nil _ _ (Below.refl _ _)⟩
  | some p =>
    go_enter Try.func80, Try.ntmps80
    go_wp2_with (go_big_may; first
      | (refine wpList_buildNil kysP.toLsP rfl rfl ?_; intro w1 hr1 hb1)
      | (refine wpList_appS kysP (by omega) rfl rfl (v := .slice (some ⟨w.heap.size, 0, none⟩) 0 0) rfl hr1 rfl (hs.below hb1) (by omega) ?_; intro ad' cap' w2 hR)
      | fail)
    go_ret
    rw [List.nil_append, Nat.zero_add] at hR
    refine ⟨_, rfl, RowNew.to (v := .slice (some ⟨w.heap.size, 0, none⟩) 0 0) ⟨hr1, fun k hk => ?_, hb1⟩ ?_⟩
    · simp [Value.ownBlock] at hk; omega
    · simpa using hR
set_option maxRecDepth 100000 in
set_option maxHeartbeats 2000000 in
theorem cut_k (w : World) {v : Value} {n i j : Nat} {jz : Int} {vs : List Value} (hv : RowQ 32 1 w v n vs) (hj : jz = (j : Int)) (hij : i ≤ j) (hn : n ≤ 1000000) :
    Calls Try.prog 67 #[v, .int .i64 i, .int .i64 jz] w (RetNew 32 1 w (min j n - min i n) ((vs.take (min j n * 1)).drop (min i n * 1))) := by
  subst hj
  obtain ⟨x, hx⟩ : ∃ x, x = min i n := ⟨_, rfl⟩
  obtain ⟨y, hy⟩ : ∃ y, y = min j n := ⟨_, rfl⟩
  have hxy : x ≤ y := by omega
  have hyn : y ≤ n := by omega
  have hxi : (x : Int) = min (i : Int) (n : Int) := by omega
  have hyi : (y : Int) = min (j : Int) (n : Int) := by omega
  rw [← hx, ← hy]
  obtain ⟨ad, c, rfl, hnc, _⟩ := hv.shape
  have Hx := Lib.hid hxi
  have Hy := Lib.hid hyi
  clear hx hy hxi hyi
  go_enter Try.func67, Try.ntmps67
  go_wp2_with (go_big_may; first
    | (refine wpList_min rfl rfl rfl rfl ?_ Hx.out)
    | (refine wpList_min rfl rfl rfl rfl ?_ Hy.out)
    | (refine wpList_slicePart kysP.toLsP rfl rfl hv rfl hxy hyn (fun c hc => run_bounds_lh _ hxy (by omega)) ?_; intro ad' c' hs)
    | fail)
  refine (clone_k w hs (by omega)).mono ?_
  rintro e w1 ⟨v, rfl, h⟩
  obtain ⟨_, _, rfl, _⟩ := h.1.shape
  go_wp2_with fail
  go_ret
  exact ⟨_, rfl, h⟩
set_option maxRecDepth 100000 in
set_option maxHeartbeats 2000000 in
theorem grow_k (w : World) {n : Nat} (hn : n ≤ 1000000) :
    Calls Try.prog 85 #[.slice none 0 0, .int .i64 n] w (RetNew 32 1 w 0 []) := by
  have d : decide ((n : Int) < 0) = false := decide_eq_false (by omega)
  rcases Nat.eq_zero_or_pos n with h0 | h0
  · subst h0
    go_enter Try.func85, Try.ntmps85
    go_wp2
    go_ret
    exact ⟨_, rfl, RowNew.nil _ _ (Below.refl _ _)⟩
  · have d2 : decide (0 < (n : Int)) = true := decide_eq_true (by omega)
    go_enter Try.func85, Try.ntmps85
    go_wp2_with (go_big_may; first
      | (refine wpList_sliceNil kysP.toLsP rfl rfl rfl (run_bounds_h _ (Nat.le_refl _)) ?_)
      | (refine wpList_appZ kysP (by omega) (by kernel_rfl) rfl rfl rfl (k := 0) (m := n) rfl (by omega) (cs := []) (by simp) (fun q hq => by cases hq) (fun _ => rfl) (by omega) (by omega) (by omega) ?_; intro G cr hG1 hG2 hG3 hG4)
      | (refine wpList_sliceTo kysP.toLsP rfl rfl rfl (r := 0) (run_bounds_h _ (by omega)) ?_)
      | fail)
    go_ret
    have hg1 : ((w.alloc (.cells cr 32)).drew).heap[w.heap.size]? = some (.cells cr 32 (0, 0)) := by simp only [World.alloc, World.drew, Array.getElem?_push_size]
    exact ⟨_, rfl, RowQ.of hg1 (Nat.zero_le _) hG2 hG3 (by simp) (fun _ h => by cases h), fun k hk => by simp [Value.ownBlock] at hk; omega, ((Below.refl _ _).alloc (Nat.le_refl _) _).drew⟩
set_option maxRecDepth 100000 in
set_option maxHeartbeats 2000000 in
theorem concat_k (w : World) {B m : Nat} {ps : List Pc} (hB : ∀ k (h : k < ps.length), w.cell? ⟨B, k, none⟩ = some ps[k].v) (hm : ps.length = m) (hm3 : m ≤ 1000) (hs : ∀ p ∈ ps, SrcC 1 w p.ad p.m p.cs) (hsum : sumC ps ≤ 1000000) :
    Calls Try.prog 74 #[.slice (some ⟨B, 0, none⟩) m m] w (RetNew 32 1 w (sumC ps) (allC ps)) := by
  have hBlt : ∀ k, k < ps.length → B < w.heap.size := fun k h => cell_lt (hB k h)
  go_enter Try.func74, Try.ntmps74
  go_upto_region 3 with (fail)
  go_loopw [3, 11] (fun sv iv wr => ∃ k : Nat, k ≤ m ∧ iv = .int .i64 k ∧ sv = .int .i64 (sumC (ps.take k) : Nat) ∧ Below w.heap.size w wr) (fun _ i _ => m - (intOf i).toNat)
  case atStart => exact ⟨0, Nat.zero_le _, rfl, rfl, Below.refl _ _⟩
  case round =>
    obtain ⟨k, hk, rfl, rfl, q⟩ := hrel
    rcases Nat.lt_or_ge k m with hlt | hge
    · have hkl : k < ps.length := by omega
      have hc := (cell_keep (q.block B (hBlt k hkl)) k).trans (hB k hkl)
      unfold Pc.v at hc
      have e1 := sumC_take hkl
      have e2 := sumC_le (ps := ps) (k + 1)
      obtain ⟨A, hA⟩ : ∃ A, A = ps[k].m := ⟨_, rfl⟩
      rw [← hA] at e1 hc
      obtain ⟨Z, hZ⟩ : ∃ Z, Z = sumC (ps.take k) := ⟨_, rfl⟩
      rw [← hZ] at e1 ⊢
      have d : decide ((Z : Int) + (A : Int) < 0) = false := decide_eq_false (by omega)
      have hZA : Z + A ≤ 1000000 := by omega
      have H1 := Lib.hid e1
      clear hA hZ e1 e2
      go_wp2_with fail
      go_roundw
      case rel => exact ⟨k + 1, by omega, by go_num, by rw [H1.out]; go_num, q⟩
      case measure => simp [intOf]; omega
    · obtain rfl : k = m := by omega
      have e0 : ps.take k = ps := List.take_of_length_le (by omega)
      rw [e0]
      clear hge hk
      go_upto_region 9 with (fail)
      go_wp2_with fail
      refine (grow_k wr hsum).mono ?_
      rintro e w1 ⟨v0, rfl, hr0⟩
      have hr1 : RowNew 32 1 w v0 (sumC (ps.take 0)) (allC (ps.take 0)) w1 := ⟨hr0.1, fun k hk => Nat.le_trans q.size (hr0.2.1 k hk), q.trans (hr0.2.2.mono q.size)⟩
      clear hr0 q e0
      go_upto_region 11 with (fail)
      go_loopw [6, 27] (fun vv iv wr => ∃ j : Nat, j ≤ k ∧ iv = .int .i64 j ∧ RowNew 32 1 w vv (sumC (ps.take j)) (allC (ps.take j)) wr) (fun _ i _ => k - (intOf i).toNat)
      case atStart => exact ⟨0, Nat.zero_le _, rfl, hr1⟩
      case round =>
        clear hr1
        obtain ⟨j, hj, rfl, hr⟩ := hrel
        rename_i wr2 _ _
        rcases Nat.lt_or_ge j k with hlt | hge
        · have hkl : j < ps.length := by omega
          obtain ⟨_, c2, rfl, hn2, _⟩ := hr.1.shape
          have hc := (cell_keep (hr.2.2.block B (hBlt j hkl)) j).trans (hB j hkl)
          unfold Pc.v at hc
          have e1 := sumC_take hkl
          have e2 := allC_take hkl
          have e3 := sumC_le (ps := ps) (j + 1)
          have hsr := (hs ps[j] (List.getElem_mem hkl)).below hr.2.2
          obtain ⟨Y, hY⟩ : ∃ Y, Y = allC (ps.take j) := ⟨_, rfl⟩
          obtain ⟨Z, hZ⟩ : ∃ Z, Z = sumC (ps.take j) := ⟨_, rfl⟩
          rw [← hZ] at hr hn2 e1 ⊢
          rw [← hY] at hr e2
          have hZA : Z + ps[j].m ≤ 1000000 := by omega
          generalize ps[j] = p at hc e1 e2 hsr hZA
          have H1 := Lib.hid e1
          have H2 := Lib.hid e2
          clear e1 e2 e3 hZ hY
          go_wp2_with (go_big_may; first
            | (refine wpList_appS kysP (by omega) rfl rfl (v := .slice _ Z c2) rfl hr.1 rfl hsr (by omega) ?_; intro ad' cap' w2 hR)
            | fail)
          go_roundw
          case rel => exact ⟨j + 1, by omega, by go_num, by rw [H1.out, H2.out]; exact hr.to hR⟩
          case measure => simp [intOf]; omega
        · obtain rfl : j = k := by omega
          rw [List.take_of_length_le (by omega)] at hr
          obtain ⟨_, c2, rfl, hn2, _⟩ := hr.1.shape
          go_wp2_with fail
          go_ret
          exact ⟨_, rfl, hr⟩
set_option maxRecDepth 100000 in
set_option maxHeartbeats 2000000 in
theorem clone_c (w : World) {ad : Option Addr} {m c : Nat} {cs : List Value} (hs : SrcC 1 w ad m cs) (hm : m ≤ 1000000) :
    Calls Try.prog 81 #[.slice ad m c] w (RetNew 37 1 w m cs) := by
  have he := fun (w : World) (ad : Option Addr) (n c : Nat) => Lib.run_eql_slice_nil (P := Try.prog) w 25 37 ad n c 0 0 chsP.hT
  cases ad with
  | none =>
    obtain rfl := hs.2.1 rfl
    obtain rfl : cs = [] := List.eq_nil_of_length_eq_zero (by rw [hs.1, Nat.zero_mul])
    go_enter Try.func81, Try.ntmps81
    go_wp2
    go_ret
    exact ⟨_, rfl, RowNew.nil _ _ (Below.refl _ _)⟩
  | some p =>
    go_enter Try.func81, Try.ntmps81
    go_wp2_with (go_big_may; first
      | (refine wpList_buildNil chsP.toLsP rfl rfl ?_; intro w1 hr1 hb1)
      | (refine wpList_appS chsP (by omega) rfl rfl (v := .slice (some ⟨w.heap.size, 0, none⟩) 0 0) rfl hr1 rfl (hs.below hb1) (by omega) ?_; intro ad' cap' w2 hR)
      | fail)
    go_ret
    rw [List.nil_append, Nat.zero_add] at hR
    refine ⟨_, rfl, RowNew.to (v := .slice (some ⟨w.heap.size, 0, none⟩) 0 0) ⟨hr1, fun k hk => ?_, hb1⟩ ?_⟩
    · simp [Value.ownBlock] at hk; omega
    · simpa using hR
set_option maxRecDepth 100000 in
set_option maxHeartbeats 2000000 in
theorem cut_c (w : World) {v : Value} {n i j : Nat} {jz : Int} {vs : List Value} (hv : RowQ 37 1 w v n vs) (hj : jz = (j : Int)) (hij : i ≤ j) (hn : n ≤ 1000000) :
    Calls Try.prog 68 #[v, .int .i64 i, .int .i64 jz] w (RetNew 37 1 w (min j n - min i n) ((vs.take (min j n * 1)).drop (min i n * 1))) := by
  subst hj
  obtain ⟨x, hx⟩ : ∃ x, x = min i n := ⟨_, rfl⟩
  obtain ⟨y, hy⟩ : ∃ y, y = min j n := ⟨_, rfl⟩
  have hxy : x ≤ y := by omega
  have hyn : y ≤ n := by omega
  have hxi : (x : Int) = min (i : Int) (n : Int) := by omega
  have hyi : (y : Int) = min (j : Int) (n : Int) := by omega
  rw [← hx, ← hy]
  obtain ⟨ad, c, rfl, hnc, _⟩ := hv.shape
  have Hx := Lib.hid hxi
  have Hy := Lib.hid hyi
  clear hx hy hxi hyi
  go_enter Try.func68, Try.ntmps68
  go_wp2_with (go_big_may; first
    | (refine wpList_min rfl rfl rfl rfl ?_ Hx.out)
    | (refine wpList_min rfl rfl rfl rfl ?_ Hy.out)
    | (refine wpList_slicePart chsP.toLsP rfl rfl hv rfl hxy hyn (fun c hc => run_bounds_lh _ hxy (by omega)) ?_; intro ad' c' hs)
    | fail)
  refine (clone_c w hs (by omega)).mono ?_
  rintro e w1 ⟨v, rfl, h⟩
  obtain ⟨_, _, rfl, _⟩ := h.1.shape
  go_wp2_with fail
  go_ret
  exact ⟨_, rfl, h⟩
set_option maxRecDepth 100000 in
set_option maxHeartbeats 2000000 in
theorem grow_c (w : World) {n : Nat} (hn : n ≤ 1000000) :
    Calls Try.prog 86 #[.slice none 0 0, .int .i64 n] w (RetNew 37 1 w 0 []) := by
  have d : decide ((n : Int) < 0) = false := decide_eq_false (by omega)
  rcases Nat.eq_zero_or_pos n with h0 | h0
  · subst h0
    go_enter Try.func86, Try.ntmps86
    go_wp2
    go_ret
    exact ⟨_, rfl, RowNew.nil _ _ (Below.refl _ _)⟩
  · have d2 : decide (0 < (n : Int)) = true := decide_eq_true (by omega)
    go_enter Try.func86, Try.ntmps86
    go_wp2_with (go_big_may; first
      | (refine wpList_sliceNil chsP.toLsP rfl rfl rfl (run_bounds_h _ (Nat.le_refl _)) ?_)
      | (refine wpList_appZ chsP (by omega) (by kernel_rfl) rfl rfl rfl (k := 0) (m := n) rfl (by omega) (cs := []) (by simp) (fun q hq => by cases hq) (fun _ => rfl) (by omega) (by omega) (by omega) ?_; intro G cr hG1 hG2 hG3 hG4)
      | (refine wpList_sliceTo chsP.toLsP rfl rfl rfl (r := 0) (run_bounds_h _ (by omega)) ?_)
      | fail)
    go_ret
    have hg1 : ((w.alloc (.cells cr 37)).drew).heap[w.heap.size]? = some (.cells cr 37 (0, 0)) := by simp only [World.alloc, World.drew, Array.getElem?_push_size]
    exact ⟨_, rfl, RowQ.of hg1 (Nat.zero_le _) hG2 hG3 (by simp) (fun _ h => by cases h), fun k hk => by simp [Value.ownBlock] at hk; omega, ((Below.refl _ _).alloc (Nat.le_refl _) _).drew⟩
set_option maxRecDepth 100000 in
set_option maxHeartbeats 2000000 in
theorem concat_c (w : World) {B m : Nat} {ps : List Pc} (hB : ∀ k (h : k < ps.length), w.cell? ⟨B, k, none⟩ = some ps[k].v) (hm : ps.length = m) (hm3 : m ≤ 1000) (hs : ∀ p ∈ ps, SrcC 1 w p.ad p.m p.cs) (hsum : sumC ps ≤ 1000000) :
    Calls Try.prog 75 #[.slice (some ⟨B, 0, none⟩) m m] w (RetNew 37 1 w (sumC ps) (allC ps)) := by
  have hBlt : ∀ k, k < ps.length → B < w.heap.size := fun k h => cell_lt (hB k h)
  go_enter Try.func75, Try.ntmps75
  go_upto_region 3 with (fail)
  go_loopw [3, 11] (fun sv iv wr => ∃ k : Nat, k ≤ m ∧ iv = .int .i64 k ∧ sv = .int .i64 (sumC (ps.take k) : Nat) ∧ Below w.heap.size w wr) (fun _ i _ => m - (intOf i).toNat)
  case atStart => exact ⟨0, Nat.zero_le _, rfl, rfl, Below.refl _ _⟩
  case round =>
    obtain ⟨k, hk, rfl, rfl, q⟩ := hrel
    rcases Nat.lt_or_ge k m with hlt | hge
    · have hkl : k < ps.length := by omega
      have hc := (cell_keep (q.block B (hBlt k hkl)) k).trans (hB k hkl)
      unfold Pc.v at hc
      have e1 := sumC_take hkl
      have e2 := sumC_le (ps := ps) (k + 1)
      obtain ⟨A, hA⟩ : ∃ A, A = ps[k].m := ⟨_, rfl⟩
      rw [← hA] at e1 hc
      obtain ⟨Z, hZ⟩ : ∃ Z, Z = sumC (ps.take k) := ⟨_, rfl⟩
      rw [← hZ] at e1 ⊢
      have d : decide ((Z : Int) + (A : Int) < 0) = false := decide_eq_false (by omega)
      have hZA : Z + A ≤ 1000000 := by omega
      have H1 := Lib.hid e1
      clear hA hZ e1 e2
      go_wp2_with fail
      go_roundw
      case rel => exact ⟨k + 1, by omega, by go_num, by rw [H1.out]; go_num, q⟩
      case measure => simp [intOf]; omega
    · obtain rfl : k = m := by omega
      have e0 : ps.take k = ps := List.take_of_length_le (by omega)
      rw [e0]
      clear hge hk
      go_upto_region 9 with (fail)
      go_wp2_with fail
      refine (grow_c wr hsum).mono ?_
      rintro e w1 ⟨v0, rfl, hr0⟩
      have hr1 : RowNew 37 1 w v0 (sumC (ps.take 0)) (allC (ps.take 0)) w1 := ⟨hr0.1, fun k hk => Nat.le_trans q.size (hr0.2.1 k hk), q.trans (hr0.2.2.mono q.size)⟩
      clear hr0 q e0
      go_upto_region 11 with (fail)
      go_loopw [6, 27] (fun vv iv wr => ∃ j : Nat, j ≤ k ∧ iv = .int .i64 j ∧ RowNew 37 1 w vv (sumC (ps.take j)) (allC (ps.take j)) wr) (fun _ i _ => k - (intOf i).toNat)
      case atStart => exact ⟨0, Nat.zero_le _, rfl, hr1⟩
      case round =>
        clear hr1
        obtain ⟨j, hj, rfl, hr⟩ := hrel
        rename_i wr2 _ _
        rcases Nat.lt_or_ge j k with hlt | hge
        · have hkl : j < ps.length := by omega
          obtain ⟨_, c2, rfl, hn2, _⟩ := hr.1.shape
          have hc := (cell_keep (hr.2.2.block B (hBlt j hkl)) j).trans (hB j hkl)
          unfold Pc.v at hc
          have e1 := sumC_take hkl
          have e2 := allC_take hkl
          have e3 := sumC_le (ps := ps) (j + 1)
          have hsr := (hs ps[j] (List.getElem_mem hkl)).below hr.2.2
          obtain ⟨Y, hY⟩ : ∃ Y, Y = allC (ps.take j) := ⟨_, rfl⟩
          obtain ⟨Z, hZ⟩ : ∃ Z, Z = sumC (ps.take j) := ⟨_, rfl⟩
          rw [← hZ] at hr hn2 e1 ⊢
          rw [← hY] at hr e2
          have hZA : Z + ps[j].m ≤ 1000000 := by omega
          generalize ps[j] = p at hc e1 e2 hsr hZA
          have H1 := Lib.hid e1
          have H2 := Lib.hid e2
          clear e1 e2 e3 hZ hY
          go_wp2_with (go_big_may; first
            | (refine wpList_appS chsP (by omega) rfl rfl (v := .slice _ Z c2) rfl hr.1 rfl hsr (by omega) ?_; intro ad' cap' w2 hR)
            | fail)
          go_roundw
          case rel => exact ⟨j + 1, by omega, by go_num, by rw [H1.out, H2.out]; exact hr.to hR⟩
          case measure => simp [intOf]; omega
        · obtain rfl : j = k := by omega
          rw [List.take_of_length_le (by omega)] at hr
          obtain ⟨_, c2, rfl, hn2, _⟩ := hr.1.shape
          go_wp2_with fail
          go_ret
          exact ⟨_, rfl, hr⟩
set_option maxRecDepth 100000 in
set_option maxHeartbeats 2000000 in
theorem clone_n (w : World) {ad : Option Addr} {m c : Nat} {cs : List Value} (hs : SrcC 3 w ad m cs) (hm : m ≤ 1000000) :
    Calls Try.prog 82 #[.slice ad m c] w (RetNew 28 3 w m cs) := by
  have he := fun (w : World) (ad : Option Addr) (n c : Nat) => Lib.run_eql_slice_nil (P := Try.prog) w 26 28 ad n c 0 0 ndP.hT
  cases ad with
  | none =>
    obtain rfl := hs.2.1 rfl
    obtain rfl : cs = [] := List.eq_nil_of_length_eq_zero (by rw [hs.1, Nat.zero_mul])
    go_enter Try.func82, Try.ntmps82
    go_wp2
    go_ret
    exact ⟨_, rfl, RowNew.nil _ _ (Below.refl _ _)⟩
  | some p =>
    go_enter Try.func82, Try.ntmps82
    go_wp2_with (go_big_may; first
      | (refine wpList_buildNil ndP.toLsP rfl rfl ?_; intro w1 hr1 hb1)
      | (refine wpList_appS ndP (by omega) rfl rfl (v := .slice (some ⟨w.heap.size, 0, none⟩) 0 0) rfl hr1 rfl (hs.below hb1) (by omega) ?_; intro ad' cap' w2 hR)
      | fail)
    go_ret
    rw [List.nil_append, Nat.zero_add] at hR
    refine ⟨_, rfl, RowNew.to (v := .slice (some ⟨w.heap.size, 0, none⟩) 0 0) ⟨hr1, fun k hk => ?_, hb1⟩ ?_⟩
    · simp [Value.ownBlock] at hk; omega
    · simpa using hR
set_option maxRecDepth 100000 in
set_option maxHeartbeats 2000000 in
theorem cut_n (w : World) {v : Value} {n i j : Nat} {jz : Int} {vs : List Value} (hv : RowQ 28 3 w v n vs) (hj : jz = (j : Int)) (hij : i ≤ j) (hn : n ≤ 1000000) :
    Calls Try.prog 69 #[v, .int .i64 i, .int .i64 jz] w (RetNew 28 3 w (min j n - min i n) ((vs.take (min j n * 3)).drop (min i n * 3))) := by
  subst hj
  obtain ⟨x, hx⟩ : ∃ x, x = min i n := ⟨_, rfl⟩
  obtain ⟨y, hy⟩ : ∃ y, y = min j n := ⟨_, rfl⟩
  have hxy : x ≤ y := by omega
  have hyn : y ≤ n := by omega
  have hxi : (x : Int) = min (i : Int) (n : Int) := by omega
  have hyi : (y : Int) = min (j : Int) (n : Int) := by omega
  rw [← hx, ← hy]
  obtain ⟨ad, c, rfl, hnc, _⟩ := hv.shape
  have Hx := Lib.hid hxi
  have Hy := Lib.hid hyi
  clear hx hy hxi hyi
  go_enter Try.func69, Try.ntmps69
  go_wp2_with (go_big_may; first
    | (refine wpList_min rfl rfl rfl rfl ?_ Hx.out)
    | (refine wpList_min rfl rfl rfl rfl ?_ Hy.out)
    | (refine wpList_slicePart ndP.toLsP rfl rfl hv rfl hxy hyn (fun c hc => run_bounds_lh _ hxy (by omega)) ?_; intro ad' c' hs)
    | fail)
  refine (clone_n w hs (by omega)).mono ?_
  rintro e w1 ⟨v, rfl, h⟩
  obtain ⟨_, _, rfl, _⟩ := h.1.shape
  go_wp2_with fail
  go_ret
  exact ⟨_, rfl, h⟩
set_option maxRecDepth 100000 in
set_option maxHeartbeats 2000000 in
theorem grow_n (w : World) {n : Nat} (hn : n ≤ 1000000) :
    Calls Try.prog 87 #[.slice none 0 0, .int .i64 n] w (RetNew 28 3 w 0 []) := by
  have d : decide ((n : Int) < 0) = false := decide_eq_false (by omega)
  rcases Nat.eq_zero_or_pos n with h0 | h0
  · subst h0
    go_enter Try.func87, Try.ntmps87
    go_wp2
    go_ret
    exact ⟨_, rfl, RowNew.nil _ _ (Below.refl _ _)⟩
  · have d2 : decide (0 < (n : Int)) = true := decide_eq_true (by omega)
    go_enter Try.func87, Try.ntmps87
    go_wp2_with (go_big_may; first
      | (refine wpList_sliceNil ndP.toLsP rfl rfl rfl (run_bounds_h _ (Nat.le_refl _)) ?_)
      | (refine wpList_appZ ndP (by omega) (by kernel_rfl) rfl rfl rfl (k := 0) (m := n) rfl (by omega) (cs := []) (by simp) (fun q hq => by cases hq) (fun _ => rfl) (by omega) (by omega) (by omega) ?_; intro G cr hG1 hG2 hG3 hG4)
      | (refine wpList_sliceTo ndP.toLsP rfl rfl rfl (r := 0) (run_bounds_h _ (by omega)) ?_)
      | fail)
    go_ret
    have hg1 : ((w.alloc (.cells cr 28)).drew).heap[w.heap.size]? = some (.cells cr 28 (0, 0)) := by simp only [World.alloc, World.drew, Array.getElem?_push_size]
    exact ⟨_, rfl, RowQ.of hg1 (Nat.zero_le _) hG2 hG3 (by simp) (fun _ h => by cases h), fun k hk => by simp [Value.ownBlock] at hk; omega, ((Below.refl _ _).alloc (Nat.le_refl _) _).drew⟩
set_option maxRecDepth 100000 in
set_option maxHeartbeats 2000000 in
theorem concat_n (w : World) {B m : Nat} {ps : List Pc} (hB : ∀ k (h : k < ps.length), w.cell? ⟨B, k, none⟩ = some ps[k].v) (hm : ps.length = m) (hm3 : m ≤ 1000) (hs : ∀ p ∈ ps, SrcC 3 w p.ad p.m p.cs) (hsum : sumC ps ≤ 1000000) :
    Calls Try.prog 76 #[.slice (some ⟨B, 0, none⟩) m m] w (RetNew 28 3 w (sumC ps) (allC ps)) := by
  have hBlt : ∀ k, k < ps.length → B < w.heap.size := fun k h => cell_lt (hB k h)
  go_enter Try.func76, Try.ntmps76
  go_upto_region 3 with (fail)
  go_loopw [3, 11] (fun sv iv wr => ∃ k : Nat, k ≤ m ∧ iv = .int .i64 k ∧ sv = .int .i64 (sumC (ps.take k) : Nat) ∧ Below w.heap.size w wr) (fun _ i _ => m - (intOf i).toNat)
  case atStart => exact ⟨0, Nat.zero_le _, rfl, rfl, Below.refl _ _⟩
  case round =>
    obtain ⟨k, hk, rfl, rfl, q⟩ := hrel
    rcases Nat.lt_or_ge k m with hlt | hge
    · have hkl : k < ps.length := by omega
      have hc := (cell_keep (q.block B (hBlt k hkl)) k).trans (hB k hkl)
      unfold Pc.v at hc
      have e1 := sumC_take hkl
      have e2 := sumC_le (ps := ps) (k + 1)
      obtain ⟨A, hA⟩ : ∃ A, A = ps[k].m := ⟨_, rfl⟩
      rw [← hA] at e1 hc
      obtain ⟨Z, hZ⟩ : ∃ Z, Z = sumC (ps.take k) := ⟨_, rfl⟩
      rw [← hZ] at e1 ⊢
      have d : decide ((Z : Int) + (A : Int) < 0) = false := decide_eq_false (by omega)
      have hZA : Z + A ≤ 1000000 := by omega
      have H1 := Lib.hid e1
      clear hA hZ e1 e2
      go_wp2_with fail
      go_roundw
      case rel => exact ⟨k + 1, by omega, by go_num, by rw [H1.out]; go_num, q⟩
      case measure => simp [intOf]; omega
    · obtain rfl : k = m := by omega
      have e0 : ps.take k = ps := List.take_of_length_le (by omega)
      rw [e0]
      clear hge hk
      go_upto_region 9 with (fail)
      go_wp2_with fail
      refine (grow_n wr hsum).mono ?_
      rintro e w1 ⟨v0, rfl, hr0⟩
      have hr1 : RowNew 28 3 w v0 (sumC (ps.take 0)) (allC (ps.take 0)) w1 := ⟨hr0.1, fun k hk => Nat.le_trans q.size (hr0.2.1 k hk), q.trans (hr0.2.2.mono q.size)⟩
      clear hr0 q e0
      go_upto_region 11 with (fail)
      go_loopw [6, 27] (fun vv iv wr => ∃ j : Nat, j ≤ k ∧ iv = .int .i64 j ∧ RowNew 28 3 w vv (sumC (ps.take j)) (allC (ps.take j)) wr) (fun _ i _ => k - (intOf i).toNat)
      case atStart => exact ⟨0, Nat.zero_le _, rfl, hr1⟩
      case round =>
        clear hr1
        obtain ⟨j, hj, rfl, hr⟩ := hrel
        rename_i wr2 _ _
        rcases Nat.lt_or_ge j k with hlt | hge
        · have hkl : j < ps.length := by omega
          obtain ⟨_, c2, rfl, hn2, _⟩ := hr.1.shape
          have hc := (cell_keep (hr.2.2.block B (hBlt j hkl)) j).trans (hB j hkl)
          unfold Pc.v at hc
          have e1 := sumC_take hkl
          have e2 := allC_take hkl
          have e3 := sumC_le (ps := ps) (j + 1)
          have hsr := (hs ps[j] (List.getElem_mem hkl)).below hr.2.2
          obtain ⟨Y, hY⟩ : ∃ Y, Y = allC (ps.take j) := ⟨_, rfl⟩
          obtain ⟨Z, hZ⟩ : ∃ Z, Z = sumC (ps.take j) := ⟨_, rfl⟩
          rw [← hZ] at hr hn2 e1 ⊢
          rw [← hY] at hr e2
          have hZA : Z + ps[j].m ≤ 1000000 := by omega
          generalize ps[j] = p at hc e1 e2 hsr hZA
          have H1 := Lib.hid e1
          have H2 := Lib.hid e2
          clear e1 e2 e3 hZ hY
          go_wp2_with (go_big_may; first
            | (refine wpList_appS ndP (by omega) rfl rfl (v := .slice _ Z c2) rfl hr.1 rfl hsr (by omega) ?_; intro ad' cap' w2 hR)
            | fail)
          go_roundw
          case rel => exact ⟨j + 1, by omega, by go_num, by rw [H1.out, H2.out]; exact hr.to hR⟩
          case measure => simp [intOf]; omega
        · obtain rfl : j = k := by omega
          rw [List.take_of_length_le (by omega)] at hr
          obtain ⟨_, c2, rfl, hn2, _⟩ := hr.1.shape
          go_wp2_with fail
          go_ret
          exact ⟨_, rfl, hr⟩
end Go.Proofs.Yticngbgjfdcnhaa
