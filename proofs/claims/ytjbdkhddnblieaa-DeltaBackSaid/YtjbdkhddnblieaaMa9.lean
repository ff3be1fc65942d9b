/-
  TEXTS OF ONE PROOF, merged: SlPi, SlPd, Dme, Dmf, Dmq, Dmr, DltV.
-/
import Derived.Maps.Range
import Derived.Test.YtjbdkhddnblieaaMa8
namespace Go.Proofs.Ytjbdkhddnblieaa
open Go.RowKit
set_option maxRecDepth 100000 in
set_option maxHeartbeats 4000000 in
theorem insertEnd_p (w : World) {v : Value} {i b m : Nat} {vs us : List Value} (hv : RowQ 53 2 w v i vs) (hn : i + m ≤ 1000000) (hm : 0 < m) (hb : w.heap[b]? = some (.cells us.toArray 53 (0, 0))) (hu : us.length = m * 2) (hu1 : ∀ u ∈ us, u.oneCell' = true) :
    Calls Try.prog 61 #[v, .int .i64 i, .slice (some ⟨b, 0, none⟩) m m] w (RetRow 53 2 w v (i + m) (vs.take (i * 2) ++ us ++ vs.drop (i * 2))) := by
  have hz1 : ((m : Int) == 0) = false := beq_eq_false_iff_ne.2 (by omega)
  have hcs := new_cells hb
  have hl : vs.take (i * 2) ++ us ++ vs.drop (i * 2) = vs ++ us := by rw [List.take_of_length_le (by rw [hv.len]; omega), List.drop_of_length_le (by rw [hv.len]; omega), List.append_nil]
  rw [hl]
  clear hl
  obtain ⟨a, c, rfl, hnc, hcm⟩ := hv.shape
  go_enter Try.func61, Try.ntmps61
  go_upto_region 7 with (go_big_may; first
    | (refine wpList_sliceAny pqP.toLsP rfl rfl rfl (l := i) (r := i) (run_bounds_l _ (by omega)) ?_; intro _)
    | fail)
  go_wp2_with (first
    | (refine wpList_appQ pqP (by omega) rfl rfl rfl hv rfl hu hcs hu1 (by omega) ?_; intro ad cap w' hR)
    | fail)
  go_ret
  exact ⟨_, rfl, hR⟩
set_option maxRecDepth 100000 in
set_option maxHeartbeats 4000000 in
theorem insertGrow_p (w : World) {n i b m g cap : Nat} {vs us : List Value} (hv : RowQ 53 2 w (.slice (some ⟨g, 0, none⟩) n cap) n vs) (hi : i < n) (hn : n + m ≤ 1000000) (hm : 0 < m) (hb : w.heap[b]? = some (.cells us.toArray 53 (0, 0))) (hu : us.length = m * 2) (hu1 : ∀ u ∈ us, u.oneCell' = true) (hnc : n ≤ cap) (hroom : cap < n + m) :
    Calls Try.prog 61 #[.slice (some ⟨g, 0, none⟩) n cap, .int .i64 i, .slice (some ⟨b, 0, none⟩) m m] w (RetRow 53 2 w (.slice (some ⟨g, 0, none⟩) n cap) (n + m) (vs.take (i * 2) ++ us ++ vs.drop (i * 2))) := by
  have hz1 : ((m : Int) == 0) = false := beq_eq_false_iff_ne.2 (by omega)
  have hz2 : ((i : Int) == (n : Int)) = false := beq_eq_false_iff_ne.2 (by omega)
  have hz3 : decide ((cap : Int) < (n : Int) + (m : Int)) = true := decide_eq_true (by omega)
  have hcs := new_cells hb
  have hglt := hv.lt (k := g) rfl
  have hblt := (Array.getElem?_eq_some_iff.1 hb).1
  have hcs0 : ∀ (j : Nat) (u : Value), (vs.take (i * 2))[j]? = some u → w.cell? (Addr.add ⟨g, 0, none⟩ j) = some u := fun j u hj => by
    rw [List.getElem?_take] at hj
    split at hj
    · rw [Addr.add_lit, Nat.zero_add]; exact hv.cell rfl hj
    · cases hj
  have hl0 : (vs.take (i * 2)).length = i * 2 := by rw [List.length_take, hv.len]; exact Nat.min_eq_left (Nat.mul_le_mul_right _ (Nat.le_of_lt hi))
  go_enter Try.func61, Try.ntmps61
  go_upto_region 10 with (go_big_may; first
    | (refine wpList_sliceAny pqP.toLsP rfl rfl rfl (l := i) (r := n) (run_bounds_l _ (by omega)) ?_; intro _)
    | (refine wpList_sliceTo pqP.toLsP rfl rfl rfl (r := i) (run_bounds_h _ (by omega)) ?_)
    | (refine wpList_appZ pqP (by omega) (by kernel_rfl) rfl rfl rfl (m := n + m - i) rfl (by omega) hl0 (fun q hq => by cases hq; exact hcs0) (fun h => by cases h) (by omega) (by omega) (by omega) ?_; intro G cr hG1 hG2 hG3 hG4)
    | fail)
  have hL : i + (n + m - i) = n + m := by omega
  rw [hL] at hG1 ⊢
  clear hL
  have hg1 : ((w.alloc (.cells cr 53)).drew).heap[w.heap.size]? = some (.cells cr 53 (0, 0)) := by simp only [World.alloc, World.drew, Array.getElem?_push_size]
  have q1 : Below w.heap.size w ((w.alloc (.cells cr 53)).drew) := ((Below.refl _ _).alloc (Nat.le_refl _) _).drew
  generalize (w.alloc (.cells cr 53)).drew = W1 at *
  have hcs1 : ∀ (j : Nat) (u : Value), us[j]? = some u → W1.cell? (Addr.add ⟨b, 0, none⟩ j) = some u := fun j u hj => by
    have := hcs j u hj
    rw [Addr.add_lit] at this ⊢
    exact (cell_keep (q1.block b hblt) _).trans this
  have hGs : (n + m) * 2 ≤ G * 2 := Nat.mul_le_mul_right _ hG1
  have hLs : (n + m) * 2 = n * 2 + m * 2 := by rw [Nat.add_mul]
  have his : i * 2 ≤ n * 2 := Nat.mul_le_mul_right _ (Nat.le_of_lt hi)
  go_upto_region 11 with (go_big_may; first
    | (refine wpList_sliceFrom pqP.toLsP rfl rfl rfl (l := i) (r := n + m) (run_bounds_l _ (by omega)) (by omega) ?_)
    | (refine wpList_copyRaw pqP.toLsP rfl rfl rfl rfl hg1 (cs := us) (by rw [Nat.min_eq_left (by omega)]; exact hu) hcs1 hu1 (by rw [hG3, hu]; omega) ?_; intro W2 hg2 hgr2)
    | fail)
  have q2 : Below w.heap.size w W2 := q1.grown hgr2 q1.size (fun k hk => by injection hk with hk; omega)
  have hdl : (vs.drop (i * 2)).length = (n - i) * 2 := by rw [List.length_drop, hv.len, Nat.sub_mul]
  have hgc : ∀ (W : World), Below w.heap.size w W → ∀ (j : Nat) (u : Value), (vs.drop (i * 2))[j]? = some u → W.cell? (Addr.add ⟨g, 0 + i * 2, none⟩ j) = some u := fun W hW j u hj => by
    rw [List.getElem?_drop] at hj
    rw [Addr.add_lit, Nat.zero_add]
    exact (cell_keep (hW.block g hglt) _).trans (hv.cell rfl hj)
  obtain ⟨C1, hC1⟩ : ∃ C1 : Array Value, C1 = (cr.toList.take (0 + i * 2) ++ us ++ cr.toList.drop (0 + i * 2 + us.length)).toArray := ⟨_, rfl⟩
  replace hg2 : W2.heap[w.heap.size]? = some (.cells C1 53 (0, 0)) := by rw [hC1]; simpa using hg2
  have hC1s : C1.size = G * 2 := by
    rw [hC1]
    simp only [List.size_toArray, List.length_append, List.length_take, List.length_drop, Array.length_toList, hG3, hu]
    omega
  refine wp_region_lnl (K := fun _ _ => True) (by kernel_rfl) (by kernel_rfl) [8] (by kernel_rfl) [lEq (.slice (some ⟨w.heap.size, 0, none⟩) (n + m) G), lEq (.int .i64 (i : Int)), lEq (.int .i64 (m : Int)), lEq (.int .i64 ((i : Int) + (m : Int))), lEq (.slice (some ⟨w.heap.size, 0 + (i + m) * 2, none⟩) (n + m - (i + m)) (G - (i + m))), lEq (.slice (some ⟨g, 0, none⟩) n cap), lEq (.int .i64 (i : Int)), lEq (.slice (some ⟨g, 0 + i * 2, none⟩) (n - i) (cap - i)), lAny] (fun l W => Below w.heap.size w W ∧ W.heap[w.heap.size]? = some (.cells (match l with | [] => C1 | _ :: _ => (C1.toList.take (0 + (i + m) * 2) ++ vs.drop (i * 2) ++ C1.toList.drop (0 + (i + m) * 2 + (vs.drop (i * 2)).length)).toArray) 53 (0, 0))) (fun l A B h hb => ⟨h.1.trans (hb.mono h.1.size), (hb.block _ (Array.getElem?_eq_some_iff.1 h.2).1).trans h.2⟩) ⟨q2, hg2⟩
    ⟨?o0, ?o1, ?o2, ?o3, ?o4, ?o5, ?o6, ?o7, ?o8, trivial⟩ ?fin
  case o0 =>
    refine LnOp.side rfl (by kernel_rfl) (fun A va w' k hF hT hk hJ hb hu hp hd => ?_)
    have e1 : A.eval (.tmp 9) = .slice (some ⟨w.heap.size, 0, none⟩) (n + m) G := hF 9 rfl
    exact BigFrame.wp_move _ rfl ⟨_, rfl, e1, Below.refl _ _⟩
  case o1 =>
    refine LnOp.side rfl (by kernel_rfl) (fun A va w' k hF hT hk hJ hb hu hp hd => ?_)
    have e1 : A.eval (.tmp 1) = .int .i64 (i : Int) := hF 1 rfl
    exact BigFrame.wp_move _ rfl ⟨_, rfl, e1, Below.refl _ _⟩
  case o2 =>
    refine LnOp.side rfl (by kernel_rfl) (fun A va w' k hF hT hk hJ hb hu hp hd => ?_)
    have e1 : A.eval (.tmp 7) = .int .i64 (m : Int) := hF 7 rfl
    exact BigFrame.wp_move _ rfl ⟨_, rfl, e1, Below.refl _ _⟩
  case o3 =>
    refine LnOp.side rfl (by kernel_rfl) (fun A va w' k hF hT hk hJ hb hu hp hd => ?_)
    have e1 : A.eval (.tmp 47) = .int .i64 (i : Int) := (hT 47 1 (by simp [size_put]) rfl).trans (hd ⟨1, .data⟩ (by simp) rfl rfl)
    have e2 : A.eval (.tmp 48) = .int .i64 (m : Int) := (hT 48 2 (by simp [size_put]) rfl).trans (hd ⟨2, .data⟩ (by simp) rfl rfl)
    exact wp_addI rfl (e1) (e2) (by omega) (by omega) ⟨_, rfl, rfl, Below.refl _ _⟩
  case o4 =>
    refine LnOp.side rfl (by kernel_rfl) (fun A va w' k hF hT hk hJ hb hu hp hd => ?_)
    have e1 : A.eval (.tmp 46) = .slice (some ⟨w.heap.size, 0, none⟩) (n + m) G := (hT 46 0 (by simp [size_put]) rfl).trans (hd ⟨0, .data⟩ (by simp) rfl rfl)
    have e2 : A.eval (.tmp 49) = .int .i64 ((i : Int) + (m : Int)) := (hT 49 3 (by simp [size_put]) rfl).trans (hd ⟨3, .data⟩ (by simp) rfl rfl)
    exact wp_sliceFrom pqP.toLsP rfl (e1) (congrArg some e2) rfl (run_bounds_l' _ (by omega) (by omega)) (by omega) ⟨_, rfl, rfl, Below.refl _ _⟩
  case o5 =>
    refine LnOp.side rfl (by kernel_rfl) (fun A va w' k hF hT hk hJ hb hu hp hd => ?_)
    have e1 : A.eval (.tmp 0) = .slice (some ⟨g, 0, none⟩) n cap := hF 0 rfl
    exact BigFrame.wp_move _ rfl ⟨_, rfl, e1, Below.refl _ _⟩
  case o6 =>
    refine LnOp.side rfl (by kernel_rfl) (fun A va w' k hF hT hk hJ hb hu hp hd => ?_)
    have e1 : A.eval (.tmp 1) = .int .i64 (i : Int) := hF 1 rfl
    exact BigFrame.wp_move _ rfl ⟨_, rfl, e1, Below.refl _ _⟩
  case o7 =>
    refine LnOp.side rfl (by kernel_rfl) (fun A va w' k hF hT hk hJ hb hu hp hd => ?_)
    have e1 : A.eval (.tmp 51) = .slice (some ⟨g, 0, none⟩) n cap := (hT 51 5 (by simp [size_put]) rfl).trans (hd ⟨5, .data⟩ (by simp) rfl rfl)
    have e2 : A.eval (.tmp 52) = .int .i64 (i : Int) := (hT 52 6 (by simp [size_put]) rfl).trans (hd ⟨6, .data⟩ (by simp) rfl rfl)
    exact wp_sliceFrom pqP.toLsP rfl (e1) (congrArg some e2) rfl (run_bounds_l' _ (by omega) (by omega)) (by omega) ⟨_, rfl, rfl, Below.refl _ _⟩
  case o8 =>
    refine LnOp.line 0 rfl rfl (fun A va w' hF hT hJ hu hd => ?_)
    have e1 : A.eval (.tmp 50) = .slice (some ⟨w.heap.size, 0 + (i + m) * 2, none⟩) (n + m - (i + m)) (G - (i + m)) := (hT 50 4 (by simp [size_put]) rfl).trans (hd ⟨4, .data⟩ (by simp) rfl rfl)
    have e2 : A.eval (.tmp 53) = .slice (some ⟨g, 0 + i * 2, none⟩) (n - i) (cap - i) := (hT 53 7 (by simp [size_put]) rfl).trans (hd ⟨7, .data⟩ (by simp) rfl rfl)
    refine wp_copyRaw pqP.toLsP rfl e1 e2 hJ.2 (cs := vs.drop (i * 2)) (by rw [hdl, Nat.min_eq_left (by omega)]) (hgc _ hJ.1) (fun u hu => hv.2 u (List.mem_of_mem_drop hu)) ?_ ?_
    · show 0 + (i + m) * 2 + (vs.drop (i * 2)).length ≤ C1.size
      rw [hC1s, hdl, Nat.sub_mul, Nat.add_mul]
      omega
    · intro W3 hg3 hgr3
      exact ⟨_, rfl, ⟨hJ.1.grown hgr3 hJ.1.size (fun k hk => by injection hk with hk; omega), hg3⟩, trivial⟩
  case fin =>
    intro vs1 W3 hJ hG
    have e0 : vs1 0 = .slice (some ⟨w.heap.size, 0, none⟩) (n + m) G := hG 0 (by decide) rfl
    have e1 : vs1 1 = .int .i64 (i : Int) := hG 1 (by decide) rfl
    have e2 : vs1 2 = .int .i64 (m : Int) := hG 2 (by decide) rfl
    have e3 : vs1 3 = .int .i64 ((i : Int) + (m : Int)) := hG 3 (by decide) rfl
    have e4 : vs1 4 = .slice (some ⟨w.heap.size, 0 + (i + m) * 2, none⟩) (n + m - (i + m)) (G - (i + m)) := hG 4 (by decide) rfl
    have e5 : vs1 5 = .slice (some ⟨g, 0, none⟩) n cap := hG 5 (by decide) rfl
    have e6 : vs1 6 = .int .i64 (i : Int) := hG 6 (by decide) rfl
    have e7 : vs1 7 = .slice (some ⟨g, 0 + i * 2, none⟩) (n - i) (cap - i) := hG 7 (by decide) rfl
    simp only [putAll, e0, e1, e2, e3, e4, e5, e6, e7]
    clear hG e0 e1 e2 e3 e4 e5 e6 e7
    go_simp
    go_wp2_with fail
    go_ret
    refine ⟨_, rfl, RowQ.of hJ.2 hG1 hG2 ?_ ?_ ?_, ⟨hJ.1.os, hJ.1.tape, hJ.1.output, hJ.1.size, fun k hk _ => hJ.1.block k hk⟩, .inr ⟨_, rfl, Nat.le_refl _⟩⟩
    · show (List.toArray _).size = _
      simp only [List.size_toArray, List.length_append, List.length_take, List.length_drop, Array.length_toList, hC1s, hv.len, Nat.add_mul]
      rw [Nat.add_mul] at hGs
      omega
    · show List.take _ (C1.toList.take _ ++ _ ++ C1.toList.drop _) = _
      have := ins_new (cur := cr.toList) (vs := vs) (us := us) (p := i * 2) (q := n * 2) (r := m * 2) his hv.len hu hG4
      rw [hC1]
      simp only [Nat.add_mul, Nat.zero_add] at this ⊢
      exact this
    · intro u hu
      rcases List.mem_append.1 hu with h | h
      · rcases List.mem_append.1 h with h | h
        · exact hv.2 u (List.mem_of_mem_take h)
        · exact hu1 u h
      · exact hv.2 u (List.mem_of_mem_drop h)
set_option maxRecDepth 100000 in
set_option maxHeartbeats 4000000 in
theorem insertFit_p (w : World) {n i b m g cap : Nat} {vs us : List Value} (hv : RowQ 53 2 w (.slice (some ⟨g, 0, none⟩) n cap) n vs) (hi : i < n) (hn : n + m ≤ 1000000) (hm : 0 < m) (hb : w.heap[b]? = some (.cells us.toArray 53 (0, 0))) (hu : us.length = m * 2) (hu1 : ∀ u ∈ us, u.oneCell' = true) (hbg : b ≠ g) (hroom : n + m ≤ cap) :
    Calls Try.prog 61 #[.slice (some ⟨g, 0, none⟩) n cap, .int .i64 i, .slice (some ⟨b, 0, none⟩) m m] w (RetRow 53 2 w (.slice (some ⟨g, 0, none⟩) n cap) (n + m) (vs.take (i * 2) ++ us ++ vs.drop (i * 2))) := by
  have hz1 : ((m : Int) == 0) = false := beq_eq_false_iff_ne.2 (by omega)
  have hz2 : ((i : Int) == (n : Int)) = false := beq_eq_false_iff_ne.2 (by omega)
  have hz3 : decide ((cap : Int) < (n : Int) + (m : Int)) = false := decide_eq_false (by omega)
  have hcs := new_cells hb
  have hblt := (Array.getElem?_eq_some_iff.1 hb).1
  have hglt := hv.lt (k := g) rfl
  obtain ⟨cur, hg, hcm, hcs1, hct⟩ : ∃ cur, w.heap[g]? = some (.cells cur 53 (0, 0)) ∧ cap ≤ maxLen ∧ cur.size = cap * 2 ∧ cur.toList.take (n * 2) = vs := by
    rcases hv.cases with ⟨h, _⟩ | ⟨g', cap', cur, h, h1, h2, h3, h4, h5⟩
    · cases h
    · cases h
      exact ⟨cur, h1, h3, h4, h5⟩
  have his : i * 2 ≤ n * 2 := Nat.mul_le_mul_right _ (Nat.le_of_lt hi)
  have hns : (n + m) * 2 ≤ cap * 2 := Nat.mul_le_mul_right _ hroom
  have hdl : (vs.drop (i * 2)).length = (n - i) * 2 := by rw [List.length_drop, hv.len, Nat.sub_mul]
  have hov : ∀ off k kc, (callFunc 68 #[.slice (some ⟨b, 0, none⟩) m m, .slice (some ⟨g, off, none⟩) k kc]).run Try.prog w = .ok (.value (.bool false)) w := fun off k kc =>
    overlaps_apart (Tb := 4) pqP.toLsP Try.func68 (by kernel_rfl) rfl (by kernel_rfl) (by kernel_rfl) hb hg hbg (by rw [hcs1]; have : 0 < cap * 2 := Nat.mul_pos (by omega) (by omega); omega)
  go_enter Try.func61, Try.ntmps61
  go_upto_region 15 with (go_big_may; first
    | (refine wpList_sliceAny pqP.toLsP rfl rfl rfl (l := i) (r := n) (run_bounds_l _ (by omega)) ?_; intro _)
    | (refine wpList_sliceTo pqP.toLsP rfl rfl rfl (r := n + m) (run_bounds_h _ (by omega)) ?_)
    | (refine wpList_sliceFrom pqP.toLsP rfl rfl rfl (l := i + m) (r := n + m) (run_bounds_l' _ (by omega) (by omega)) (by omega) ?_)
    | fail)
  have hg0 := hg
  refine wp_region_lnl (K := fun _ _ => True) (by kernel_rfl) (by kernel_rfl) [8] (by kernel_rfl) [lEq (.slice (some ⟨g, 0, none⟩) (n + m) cap), lEq (.int .i64 (i : Int)), lEq (.int .i64 (m : Int)), lEq (.int .i64 ((i : Int) + (m : Int))), lEq (.slice (some ⟨g, 0 + (i + m) * 2, none⟩) (n + m - (i + m)) (cap - (i + m))), lEq (.slice (some ⟨g, 0, none⟩) (n + m) cap), lEq (.int .i64 (i : Int)), lEq (.slice (some ⟨g, 0 + i * 2, none⟩) (n + m - i) (cap - i)), lAny] (fun l W => Trd (· = g) w W ∧ W.heap[g]? = some (.cells (match l with | [] => cur | _ :: _ => (cur.toList.take (0 + (i + m) * 2) ++ vs.drop (i * 2) ++ cur.toList.drop (0 + (i + m) * 2 + (vs.drop (i * 2)).length)).toArray) 53 (0, 0))) (fun l A B h hb => ⟨h.1.trans (Trd.of (F := (· = g)) hb) (fun _ _ h => h), (hb.block _ (Array.getElem?_eq_some_iff.1 h.2).1).trans h.2⟩) ⟨Trd.refl _ _, hg⟩
    ⟨?o0, ?o1, ?o2, ?o3, ?o4, ?o5, ?o6, ?o7, ?o8, trivial⟩ ?fin
  case o0 =>
    refine LnOp.side rfl (by kernel_rfl) (fun A va w' k hF hT hk hJ hb hu hp hd => ?_)
    have e1 : A.eval (.tmp 0) = .slice (some ⟨g, 0, none⟩) (n + m) cap := hF 0 rfl
    exact BigFrame.wp_move _ rfl ⟨_, rfl, e1, Below.refl _ _⟩
  case o1 =>
    refine LnOp.side rfl (by kernel_rfl) (fun A va w' k hF hT hk hJ hb hu hp hd => ?_)
    have e1 : A.eval (.tmp 1) = .int .i64 (i : Int) := hF 1 rfl
    exact BigFrame.wp_move _ rfl ⟨_, rfl, e1, Below.refl _ _⟩
  case o2 =>
    refine LnOp.side rfl (by kernel_rfl) (fun A va w' k hF hT hk hJ hb hu hp hd => ?_)
    have e1 : A.eval (.tmp 7) = .int .i64 (m : Int) := hF 7 rfl
    exact BigFrame.wp_move _ rfl ⟨_, rfl, e1, Below.refl _ _⟩
  case o3 =>
    refine LnOp.side rfl (by kernel_rfl) (fun A va w' k hF hT hk hJ hb hu hp hd => ?_)
    have e1 : A.eval (.tmp 70) = .int .i64 (i : Int) := (hT 70 1 (by simp) rfl).trans (hd ⟨1, .data⟩ (by simp) rfl rfl)
    have e2 : A.eval (.tmp 71) = .int .i64 (m : Int) := (hT 71 2 (by simp) rfl).trans (hd ⟨2, .data⟩ (by simp) rfl rfl)
    exact wp_addI rfl (e1) (e2) (by omega) (by omega) ⟨_, rfl, rfl, Below.refl _ _⟩
  case o4 =>
    refine LnOp.side rfl (by kernel_rfl) (fun A va w' k hF hT hk hJ hb hu hp hd => ?_)
    have e1 : A.eval (.tmp 69) = .slice (some ⟨g, 0, none⟩) (n + m) cap := (hT 69 0 (by simp) rfl).trans (hd ⟨0, .data⟩ (by simp) rfl rfl)
    have e2 : A.eval (.tmp 72) = .int .i64 ((i : Int) + (m : Int)) := (hT 72 3 (by simp) rfl).trans (hd ⟨3, .data⟩ (by simp) rfl rfl)
    exact wp_sliceFrom pqP.toLsP rfl (e1) (congrArg some e2) rfl (run_bounds_l' _ (by omega) (by omega)) (by omega) ⟨_, rfl, rfl, Below.refl _ _⟩
  case o5 =>
    refine LnOp.side rfl (by kernel_rfl) (fun A va w' k hF hT hk hJ hb hu hp hd => ?_)
    have e1 : A.eval (.tmp 0) = .slice (some ⟨g, 0, none⟩) (n + m) cap := hF 0 rfl
    exact BigFrame.wp_move _ rfl ⟨_, rfl, e1, Below.refl _ _⟩
  case o6 =>
    refine LnOp.side rfl (by kernel_rfl) (fun A va w' k hF hT hk hJ hb hu hp hd => ?_)
    have e1 : A.eval (.tmp 1) = .int .i64 (i : Int) := hF 1 rfl
    exact BigFrame.wp_move _ rfl ⟨_, rfl, e1, Below.refl _ _⟩
  case o7 =>
    refine LnOp.side rfl (by kernel_rfl) (fun A va w' k hF hT hk hJ hb hu hp hd => ?_)
    have e1 : A.eval (.tmp 74) = .slice (some ⟨g, 0, none⟩) (n + m) cap := (hT 74 5 (by simp) rfl).trans (hd ⟨5, .data⟩ (by simp) rfl rfl)
    have e2 : A.eval (.tmp 75) = .int .i64 (i : Int) := (hT 75 6 (by simp) rfl).trans (hd ⟨6, .data⟩ (by simp) rfl rfl)
    exact wp_sliceFrom pqP.toLsP rfl (e1) (congrArg some e2) rfl (run_bounds_l' _ (by omega) (by omega)) (by omega) ⟨_, rfl, rfl, Below.refl _ _⟩
  case o8 =>
    refine LnOp.line 0 rfl rfl (fun A va w' hF hT hJ hu hd => ?_)
    have e1 : A.eval (.tmp 73) = .slice (some ⟨g, 0 + (i + m) * 2, none⟩) (n + m - (i + m)) (cap - (i + m)) := (hT 73 4 (by simp) rfl).trans (hd ⟨4, .data⟩ (by simp) rfl rfl)
    have e2 : A.eval (.tmp 76) = .slice (some ⟨g, 0 + i * 2, none⟩) (n + m - i) (cap - i) := (hT 76 7 (by simp) rfl).trans (hd ⟨7, .data⟩ (by simp) rfl rfl)
    refine wp_copyRaw pqP.toLsP rfl e1 e2 hJ.2 (cs := vs.drop (i * 2)) (by rw [hdl, Nat.min_eq_right (by omega)]; congr 1; omega) (fun j u hj => ?_) (fun u hu => hv.2 u (List.mem_of_mem_drop hu)) ?_ ?_
    · rw [List.getElem?_drop, ← hct, List.getElem?_take] at hj
      split at hj
      · rw [Addr.add_lit, Nat.zero_add]
        have h5 : w'.heap[g]? = some (.cells cur 53 (0, 0)) := hJ.2
        simpa [World.cell?, h5, ← Array.getElem?_toList] using hj
      · cases hj
    · show 0 + (i + m) * 2 + (vs.drop (i * 2)).length ≤ cur.size
      rw [hcs1, hdl, Nat.zero_add, ← Nat.add_mul]
      exact Nat.mul_le_mul_right _ (by omega)
    · intro W3 hg3 hgr3
      exact ⟨_, rfl, ⟨hJ.1.trans (Trd.ofGrown (F := (· = g)) hgr3 fun k hk => by injection hk with hk; exact hk.symm) (fun _ _ h => h), hg3⟩, trivial⟩
  case fin =>
    intro vs1 W3 hJ hG
    have e0 : vs1 0 = .slice (some ⟨g, 0, none⟩) (n + m) cap := hG 0 (by decide) rfl
    have e1 : vs1 1 = .int .i64 (i : Int) := hG 1 (by decide) rfl
    have e2 : vs1 2 = .int .i64 (m : Int) := hG 2 (by decide) rfl
    have e3 : vs1 3 = .int .i64 ((i : Int) + (m : Int)) := hG 3 (by decide) rfl
    have e4 : vs1 4 = .slice (some ⟨g, 0 + (i + m) * 2, none⟩) (n + m - (i + m)) (cap - (i + m)) := hG 4 (by decide) rfl
    have e5 : vs1 5 = .slice (some ⟨g, 0, none⟩) (n + m) cap := hG 5 (by decide) rfl
    have e6 : vs1 6 = .int .i64 (i : Int) := hG 6 (by decide) rfl
    have e7 : vs1 7 = .slice (some ⟨g, 0 + i * 2, none⟩) (n + m - i) (cap - i) := hG 7 (by decide) rfl
    simp only [putAll, e0, e1, e2, e3, e4, e5, e6, e7]
    clear hG e0 e1 e2 e3 e4 e5 e6 e7
    obtain ⟨C1, hC1⟩ : ∃ C1 : Array Value, C1 = (cur.toList.take (0 + (i + m) * 2) ++ vs.drop (i * 2) ++ cur.toList.drop (0 + (i + m) * 2 + (vs.drop (i * 2)).length)).toArray := ⟨_, rfl⟩
    have hg3 : W3.heap[g]? = some (.cells C1 53 (0, 0)) := by rw [hC1]; exact hJ.2
    have hC1s : C1.size = cap * 2 := by
      rw [hC1]
      simp only [List.size_toArray, List.length_append, List.length_take, List.length_drop, Array.length_toList, hcs1, hv.len, Nat.add_mul]
      rw [Nat.add_mul] at hns
      omega
    have hcs3 : ∀ (j : Nat) (u : Value), us[j]? = some u → W3.cell? (Addr.add ⟨b, 0, none⟩ j) = some u := fun j u hj => by
      have := hcs j u hj
      rw [Addr.add_lit] at this ⊢
      exact (cell_keep (hJ.1.block b hblt hbg) _).trans this
    go_simp
    go_wp2_with (go_big_may; first
      | (refine wpList_sliceFrom pqP.toLsP rfl rfl rfl (l := i) (r := n + m) (run_bounds_l _ (by omega)) (by omega) ?_)
      | (refine wpList_copyRaw pqP.toLsP rfl rfl rfl rfl hg3 (cs := us) (by rw [Nat.min_eq_left (by omega)]; exact hu) hcs3 hu1 (by rw [hC1s, hu]; omega) ?_; intro W4 hg4 hgr4)
      | fail)
    go_ret
    have q4 : Trd (· = g) w W4 := hJ.1.trans (Trd.ofGrown (F := (· = g)) hgr4 fun k hk => by injection hk with hk; exact hk.symm) (fun _ _ h => h)
    refine ⟨_, rfl, RowQ.of hg4 hroom hcm ?_ ?_ ?_, ⟨q4.os, q4.tape, q4.output, q4.size, fun k hk hn => q4.block k hk fun h => hn (by rw [h]; rfl)⟩, .inl rfl⟩
    · simp only [List.size_toArray, List.length_append, List.length_take, List.length_drop, Array.length_toList, hC1s, hu]
      rw [Nat.add_mul] at hns
      omega
    · have := ins_cells (cur := cur.toList) (us := us) (p := i * 2) (q := n * 2) (r := m * 2) his hu (by rw [Array.length_toList, hcs1, ← Nat.add_mul]; exact hns)
      rw [hct] at this
      rw [hC1]
      simp only [Nat.zero_add, Nat.add_mul] at this ⊢
      exact this
    · intro u hu
      rcases List.mem_append.1 hu with h | h
      · rcases List.mem_append.1 h with h | h
        · exact hv.2 u (List.mem_of_mem_take h)
        · exact hu1 u h
      · exact hv.2 u (List.mem_of_mem_drop h)
theorem insert_p (w : World) {v : Value} {n i b m : Nat} {vs us : List Value} (hv : RowQ 53 2 w v n vs) (hi : i ≤ n) (hn : n + m ≤ 1000000) (hm : 0 < m) (hb : w.heap[b]? = some (.cells us.toArray 53 (0, 0))) (hu : us.length = m * 2) (hu1 : ∀ u ∈ us, u.oneCell' = true) (hbg : v.ownBlock ≠ some b) :
    Calls Try.prog 61 #[v, .int .i64 i, .slice (some ⟨b, 0, none⟩) m m] w (RetRow 53 2 w v (n + m) (vs.take (i * 2) ++ us ++ vs.drop (i * 2))) := by
  rcases Nat.lt_or_ge i n with h | h
  · rcases hv.cases with ⟨_, h2, _⟩ | ⟨g, cap, cur, rfl, _, h3, _⟩
    · omega
    · rcases Nat.lt_or_ge cap (n + m) with h4 | h4
      · exact insertGrow_p w hv h hn hm hb hu hu1 h3 h4
      · exact insertFit_p w hv h hn hm hb hu hu1 (fun e => hbg (by rw [e]; rfl)) h4
  · obtain rfl : i = n := by omega
    exact insertEnd_p w hv hn hm hb hu hu1
end Go.Proofs.Ytjbdkhddnblieaa
namespace Go.Proofs.Ytjbdkhddnblieaa
open Go.RowKit
theorem pqs1 : ∀ i z, Try.prog.info? 53 = some i → i.zero = some z → ∀ u ∈ z.cells.toList, u.oneCell' = true := ones_of (z0 := .agg #[.slice none 0 0, .slice none 0 0]) (by kernel_rfl) (fun u hu => by
  simp [Value.cells] at hu
  subst hu; rfl)
set_option maxRecDepth 100000 in
set_option maxHeartbeats 4000000 in
theorem delete_p (w : World) {v : Value} {n i : Nat} {j : Int} {vs : List Value} (hv : RowQ 53 2 w v n vs) (hi : i < n) (hj : j = (i : Int) + 1) (hn : n ≤ 1000000) :
    Calls Try.prog 60 #[v, .int .i64 i, .int .i64 j] w (RetRow 53 2 w v (n - 1) (vs.take (i * 2) ++ vs.drop ((i + 1) * 2))) := by
  subst hj
  obtain ⟨g, cap, cur, rfl, hg, hnc, hcm, hcs1, hct⟩ : ∃ g cap cur, v = .slice (some ⟨g, 0, none⟩) n cap ∧ w.heap[g]? = some (.cells cur 53 (0, 0)) ∧ n ≤ cap ∧ cap ≤ maxLen ∧ cur.size = cap * 2 ∧ cur.toList.take (n * 2) = vs := by
    rcases hv.cases with ⟨_, h, _⟩ | h
    · omega
    · exact h
  have hz2 : ((i : Int) == (i : Int) + 1) = false := beq_eq_false_iff_ne.2 (by omega)
  have his : i * 2 ≤ n * 2 := Nat.mul_le_mul_right _ (Nat.le_of_lt hi)
  have his1 : (i + 1) * 2 ≤ n * 2 := Nat.mul_le_mul_right _ hi
  have hns : n * 2 ≤ cap * 2 := Nat.mul_le_mul_right _ hnc
  have hdl : (vs.drop ((i + 1) * 2)).length = (n - (i + 1)) * 2 := by rw [List.length_drop, hv.len, Nat.sub_mul]
  obtain ⟨sa, hsa, hsa2⟩ := part_at g 2 (i + 1) cap
  go_enter Try.func60, Try.ntmps60
  go_upto_region 5 with (go_big_may; first
    | (refine wpList_slice3Any pqP.toLsP rfl rfl rfl (l := i) (r := i + 1) (m := n) (run_bounds3 _ rfl (by omega) rfl (by omega) (by omega) (by omega)) ?_; intro _)
    | fail)
  refine wp_region_lnl (K := fun _ _ => True) (by kernel_rfl) (by kernel_rfl) [6, 7] (by kernel_rfl) [lEq (.slice (some ⟨g, 0, none⟩) n cap), lEq (.int .i64 (i : Int)), lEq (.slice (some ⟨g, 0, none⟩) i cap), lEq (.slice (some ⟨g, 0, none⟩) n cap), lEq (.int .i64 ((i : Int) + 1)), lEq (.slice (some sa) (n - (i + 1)) (cap - (i + 1))), lAny, lAny] (fun l W => Trd (· = g) w W ∧ (∀ x ∈ l, x = .slice (some ⟨g, 0, none⟩) (i + (n - (i + 1))) cap) ∧ W.heap[g]? = some (.cells (match l with | [] => cur | _ :: _ => (cur.toList.take (i * 2) ++ vs.drop ((i + 1) * 2) ++ cur.toList.drop (i * 2 + (vs.drop ((i + 1) * 2)).length)).toArray) 53 (0, 0))) (fun l A B h hb => ⟨h.1.trans (Trd.of (F := (· = g)) hb) (fun _ _ h => h), h.2.1, (hb.block _ (Array.getElem?_eq_some_iff.1 h.2.2).1).trans h.2.2⟩) ⟨Trd.refl _ _, by simp, hg⟩
    ⟨?o0, ?o1, ?o2, ?o3, ?o4, ?o5, ?o6, ?o7, trivial⟩ ?fin
  case o0 =>
    refine LnOp.side rfl (by kernel_rfl) (fun A va w' k hF hT hk hJ hb hu hp hd => ?_)
    have e1 : A.eval (.tmp 0) = .slice (some ⟨g, 0, none⟩) n cap := (hT 0 7 (by simp) rfl).trans (hu 1 7 0 (hb 1 7 rfl (by kernel_rfl)) rfl rfl)
    exact BigFrame.wp_move _ rfl ⟨_, rfl, e1, Below.refl _ _⟩
  case o1 =>
    refine LnOp.side rfl (by kernel_rfl) (fun A va w' k hF hT hk hJ hb hu hp hd => ?_)
    have e1 : A.eval (.tmp 1) = .int .i64 (i : Int) := hF 1 rfl
    exact BigFrame.wp_move _ rfl ⟨_, rfl, e1, Below.refl _ _⟩
  case o2 =>
    refine LnOp.side rfl (by kernel_rfl) (fun A va w' k hF hT hk hJ hb hu hp hd => ?_)
    have e1 : A.eval (.tmp 20) = .slice (some ⟨g, 0, none⟩) n cap := (hT 20 0 (by simp) rfl).trans (hd ⟨0, .data⟩ (by simp) rfl rfl)
    have e2 : A.eval (.tmp 21) = .int .i64 (i : Int) := (hT 21 1 (by simp) rfl).trans (hd ⟨1, .data⟩ (by simp) rfl rfl)
    exact wp_sliceTo pqP.toLsP rfl (e1) (congrArg some e2) (run_bounds_h _ (by omega)) ⟨_, rfl, rfl, Below.refl _ _⟩
  case o3 =>
    refine LnOp.side rfl (by kernel_rfl) (fun A va w' k hF hT hk hJ hb hu hp hd => ?_)
    have e1 : A.eval (.tmp 0) = .slice (some ⟨g, 0, none⟩) n cap := (hT 0 7 (by simp) rfl).trans (hu 1 7 0 (hb 1 7 rfl (by kernel_rfl)) rfl rfl)
    exact BigFrame.wp_move _ rfl ⟨_, rfl, e1, Below.refl _ _⟩
  case o4 =>
    refine LnOp.side rfl (by kernel_rfl) (fun A va w' k hF hT hk hJ hb hu hp hd => ?_)
    have e1 : A.eval (.tmp 2) = .int .i64 ((i : Int) + 1) := hF 2 rfl
    exact BigFrame.wp_move _ rfl ⟨_, rfl, e1, Below.refl _ _⟩
  case o5 =>
    refine LnOp.side rfl (by kernel_rfl) (fun A va w' k hF hT hk hJ hb hu hp hd => ?_)
    have e1 : A.eval (.tmp 23) = .slice (some ⟨g, 0, none⟩) n cap := (hT 23 3 (by simp) rfl).trans (hd ⟨3, .data⟩ (by simp) rfl rfl)
    have e2 : A.eval (.tmp 24) = .int .i64 ((i : Int) + 1) := (hT 24 4 (by simp) rfl).trans (hd ⟨4, .data⟩ (by simp) rfl rfl)
    exact wp_sliceRaw pqP.toLsP rfl (e1) (congrArg some e2) rfl (run_bounds_l' (l := i + 1) _ (by omega) (by omega)) ⟨_, rfl, by rw [hsa]; rfl, Below.refl _ _⟩
  case o6 =>
    refine LnOp.line 0 rfl rfl (fun A va w' hF hT hJ hu hd => ?_)
    have e1 : A.eval (.tmp 22) = .slice (some ⟨g, 0, none⟩) i cap := (hT 22 2 (by simp) rfl).trans (hd ⟨2, .data⟩ (by simp) rfl rfl)
    have e2 : A.eval (.tmp 25) = .slice (some sa) (n - (i + 1)) (cap - (i + 1)) := (hT 25 5 (by simp) rfl).trans (hd ⟨5, .data⟩ (by simp) rfl rfl)
    refine wp_appFit pqP.toLsP rfl e1 e2 hJ.2.2 (cs := vs.drop ((i + 1) * 2)) (by rw [hdl]) (fun j u hj => ?_) (fun u hu => hv.2 u (List.mem_of_mem_drop hu)) (by omega) ?_ ?_
    · rw [List.getElem?_drop, ← hct, List.getElem?_take] at hj
      split at hj
      · rename_i hlt
        rw [hsa2 (fun e => by rw [← Nat.not_le] at hlt; exact hlt (by have : n * 2 ≤ (i + 1) * 2 := Nat.mul_le_mul_right _ (by omega); omega)), Addr.add_lit]
        have h5 : w'.heap[g]? = some (.cells cur 53 (0, 0)) := hJ.2.2
        simpa [World.cell?, h5, ← Array.getElem?_toList] using hj
      · cases hj
    · show i * 2 + (vs.drop ((i + 1) * 2)).length ≤ cur.size
      rw [hcs1, hdl, ← Nat.add_mul]
      exact Nat.mul_le_mul_right _ (by omega)
    · intro W3 hg3 hgr3
      exact ⟨_, rfl, ⟨hJ.1.trans (Trd.ofGrown (F := (· = g)) hgr3 fun k hk => by injection hk with hk; exact hk.symm) (fun _ _ h => h), fun x hx => by simpa using hx, hg3⟩, trivial⟩
  case o7 =>
    refine LnOp.line 1 rfl rfl (fun A va w' hF hT hJ hu hd => ?_)
    have x1 : A.eval (.tmp 26) = va 6 := hT 26 6 (by simp) rfl
    refine BigFrame.wp_assign _ rfl ⟨_, rfl, ⟨hJ.1, fun y hy => ?_, hJ.2.2⟩, trivial⟩
    rcases List.mem_append.1 hy with h | h
    · exact hJ.2.1 y h
    · rw [List.mem_singleton.1 h]
      exact x1.trans (hJ.2.1 _ (by simp))
  case fin =>
    intro vs1 W3 hJ hG
    have e0 : vs1 0 = .slice (some ⟨g, 0, none⟩) n cap := hG 0 (by decide) rfl
    have e1 : vs1 1 = .int .i64 (i : Int) := hG 1 (by decide) rfl
    have e2 : vs1 2 = .slice (some ⟨g, 0, none⟩) i cap := hG 2 (by decide) rfl
    have e3 : vs1 3 = .slice (some ⟨g, 0, none⟩) n cap := hG 3 (by decide) rfl
    have e4 : vs1 4 = .int .i64 ((i : Int) + 1) := hG 4 (by decide) rfl
    have e5 : vs1 5 = .slice (some sa) (n - (i + 1)) (cap - (i + 1)) := hG 5 (by decide) rfl
    have e6 : vs1 6 = .slice (some ⟨g, 0, none⟩) (i + (n - (i + 1))) cap := hJ.2.1 _ (by simp)
    have e7 : vs1 7 = .slice (some ⟨g, 0, none⟩) (i + (n - (i + 1))) cap := hJ.2.1 _ (by simp)
    simp only [putAll, e0, e1, e2, e3, e4, e5, e6, e7]
    clear hG e0 e1 e2 e3 e4 e5 e6 e7
    obtain ⟨C1, hC1⟩ : ∃ C1 : Array Value, C1 = (cur.toList.take (i * 2) ++ vs.drop ((i + 1) * 2) ++ cur.toList.drop (i * 2 + (vs.drop ((i + 1) * 2)).length)).toArray := ⟨_, rfl⟩
    have hg3 : W3.heap[g]? = some (.cells C1 53 (0, 0)) := by rw [hC1]; exact hJ.2.2
    have hC1s : C1.size = cap * 2 := by
      rw [hC1]
      simp only [List.size_toArray, List.length_append, List.length_take, List.length_drop, Array.length_toList, hcs1, hv.len, Nat.add_mul]
      rw [Nat.add_mul] at his1
      omega
    obtain ⟨n1, hn1⟩ : ∃ n1, n1 = i + (n - (i + 1)) := ⟨_, rfl⟩
    have hn2 : n ≤ n1 + 1 := by omega
    have hn3 : n1 + 1 ≤ n := by omega
    rw [← hn1]
    clear hn1
    go_simp
    go_wp2_with (go_big_may; first
      | (refine wpList_sliceFrom pqP.toLsP rfl rfl rfl (l := n1) (r := n) (run_bounds_lh _ (by omega) (by omega)) (by omega) ?_)
      | (refine wpList_clearQ pqP pqs1 rfl rfl rfl rfl hg3 (.inr rfl) (.inr (by rw [hC1s]; omega)) ?_; intro W4 C4 hg4 hs4 ht4 _ hgr4)
      | fail)
    go_ret
    have q4 : Trd (· = g) w W4 := hJ.1.trans (Trd.ofGrown (F := (· = g)) hgr4 fun k hk => by injection hk with hk; exact hk.symm) (fun _ _ h => h)
    refine ⟨_, rfl, ?_, ⟨q4.os, q4.tape, q4.output, q4.size, fun k hk hn => q4.block k hk fun h => hn (by rw [h]; rfl)⟩, .inl rfl⟩
    obtain rfl : n - 1 = n1 := by omega
    refine RowQ.of hg4 (by omega) hcm (by rw [hs4, hC1s]) ?_ ?_
    · have h5 := ht4 (by omega)
      have h6 : C4.toList.take ((n - 1) * 2) = C1.toList.take ((n - 1) * 2) := by
        rw [← Nat.zero_add ((n - 1) * 2)]
        first
          | exact h5
          | simpa using h5
      rw [h6, hC1]
      have := del_cells (cur := cur.toList) (p := i * 2) (q := n * 2) (r := (i + 1) * 2) (Nat.mul_le_mul_right _ (by omega)) his1 (by rw [Array.length_toList, hcs1]; exact hns)
      rw [hct, ← Nat.sub_mul] at this
      rw [hdl]
      have e : (n - 1) * 2 = i * 2 + (n - (i + 1)) * 2 := by rw [← Nat.add_mul]; congr 1; omega
      rw [e]
      exact this
    · intro u hu
      rcases List.mem_append.1 hu with h | h
      · exact hv.2 u (List.mem_of_mem_take h)
      · exact hv.2 u (List.mem_of_mem_drop h)
end Go.Proofs.Ytjbdkhddnblieaa
namespace Go.Proofs.Ytjbdkhddnblieaa
open Go.RowKit Go.Shelf
def plcQ (l : List Pq) (k : List UInt8) : Nat := (l.takeWhile fun x => ltB x.key k).length
def isQ (l : List Pq) (k : List UInt8) : Bool := decide ((l[plcQ l k]?).map Pq.key = some k)
theorem plcQ_le (l : List Pq) (k : List UInt8) : plcQ l k ≤ l.length := (List.takeWhile_prefix _).length_le
theorem plcQ_lt : ∀ {l : List Pq} {k : List UInt8}, SrtQ l → ∀ i (h : i < l.length), ltB l[i].key k = decide (i < plcQ l k)
  | [], _, _, _, h => absurd h (Nat.not_lt_zero _)
  | x :: r, k, hs, 0, _ => by
    unfold plcQ
    rw [List.takeWhile_cons]
    cases hx : ltB x.key k <;> simp [hx]
  | x :: r, k, hs, i + 1, h => by
    obtain ⟨h1, h2⟩ := List.pairwise_cons.1 hs
    have ih := plcQ_lt (k := k) h2 i (by simpa using h)
    unfold plcQ at ih ⊢
    rw [List.takeWhile_cons, List.getElem_cons_succ]
    cases hx : ltB x.key k with
    | true => simpa using ih
    | false =>
      have hir : i < r.length := by simpa using h
      cases hy : ltB (r[i]'hir).key k with
      | false => simp
      | true => rw [ltB_trans (h1 _ (List.getElem_mem _)) hy] at hx; cases hx
theorem insE_at {p : Pq} : ∀ {l : List Pq}, SrtQ l → insE ltB Pq.key p l = l.take (plcQ l p.key) ++ p :: l.drop (if isQ l p.key = true then plcQ l p.key + 1 else plcQ l p.key)
  | [], _ => by simp [insE, plcQ, isQ]
  | x :: r, hs => by
    obtain ⟨h1, h2⟩ := List.pairwise_cons.1 hs
    have ih := insE_at (p := p) h2
    unfold insE
    by_cases e : p.key = x.key
    · have hx : ltB x.key p.key = false := by rw [e]; exact ltB_irrefl _
      have hp : plcQ (x :: r) p.key = 0 := by unfold plcQ; rw [List.takeWhile_cons, hx]; rfl
      have hi : isQ (x :: r) p.key = true := by unfold isQ; rw [hp]; simp [e]
      rw [hp, hi, if_pos e]
      simp
    · rw [if_neg e]
      cases hx : ltB p.key x.key with
      | true =>
        have hx2 : ltB x.key p.key = false := ltB_asymm hx
        have hp : plcQ (x :: r) p.key = 0 := by unfold plcQ; rw [List.takeWhile_cons, hx2]; rfl
        have hi : isQ (x :: r) p.key = false := by unfold isQ; rw [hp]; simp; exact fun h => e h.symm
        rw [hp, hi, if_pos rfl]
        simp
      | false =>
        have hx2 : ltB x.key p.key = true := ltB_total e hx
        have hp : plcQ (x :: r) p.key = plcQ r p.key + 1 := by unfold plcQ; rw [List.takeWhile_cons, hx2]; simp
        have hi : isQ (x :: r) p.key = isQ r p.key := by unfold isQ; rw [hp]; simp
        rw [hp, hi, if_neg (by simp), ih]
        split <;> simp
theorem delE_at {k : List UInt8} : ∀ {l : List Pq}, SrtQ l → delE Pq.key k l = if isQ l k = true then l.take (plcQ l k) ++ l.drop (plcQ l k + 1) else l
  | [], _ => by simp [delE, isQ]
  | x :: r, hs => by
    obtain ⟨h1, h2⟩ := List.pairwise_cons.1 hs
    have ih := delE_at (k := k) h2
    have hc : delE Pq.key k (x :: r) = if x.key = k then delE Pq.key k r else x :: delE Pq.key k r := by
      unfold delE
      rw [List.filter_cons]
      by_cases e : x.key = k <;> simp [e]
    rw [hc]
    have hno : ∀ y ∈ r, ltB k y.key = true → y.key ≠ k := fun y _ h e => by rw [e, ltB_irrefl] at h; cases h
    have hr : (∀ y ∈ r, ltB k y.key = true) → delE Pq.key k r = r := fun h => by
      unfold delE
      rw [List.filter_eq_self]
      intro y hy
      simpa using hno y hy (h y hy)
    by_cases e : x.key = k
    · have hx : ltB x.key k = false := by rw [e]; exact ltB_irrefl _
      have hp : plcQ (x :: r) k = 0 := by unfold plcQ; rw [List.takeWhile_cons, hx]; rfl
      have hi : isQ (x :: r) k = true := by unfold isQ; rw [hp]; simp [e]
      rw [hp, hi, if_pos e, if_pos rfl, hr (fun y hy => by rw [← e]; exact h1 y hy)]
      simp
    · rw [if_neg e]
      cases hx : ltB x.key k with
      | false =>
        have hx2 : ltB k x.key = true := ltB_total e hx
        have hp : plcQ (x :: r) k = 0 := by unfold plcQ; rw [List.takeWhile_cons, hx]; rfl
        have hi : isQ (x :: r) k = false := by unfold isQ; rw [hp]; simp [e]
        rw [hi, if_neg (by simp), hr (fun y hy => ltB_trans hx2 (h1 y hy))]
      | true =>
        have hp : plcQ (x :: r) k = plcQ r k + 1 := by unfold plcQ; rw [List.takeWhile_cons, hx]; simp
        have hi : isQ (x :: r) k = isQ r k := by unfold isQ; rw [hp]; simp
        rw [hp, hi, ih]
        split <;> simp
set_option maxRecDepth 100000 in
set_option maxHeartbeats 1000000 in
theorem dCmp_any (w : World) {S S2 : Nat → Prop} {A B : Option Addr} {x : Pq} {C D : Nat} {a2 : Option Addr} {n2 c2 : Nat} {k : List UInt8} (hx : RdS S w (.slice A x.key.length C) x.key) (hk : RdS S2 w (.slice a2 n2 c2) k) :
    Calls Try.prog 59 #[.agg #[.slice A x.key.length C, .slice B x.val.length D], .slice a2 n2 c2] w fun e w' => e = .returned (.int .i64 (Lib.compareBytes x.key k)) ∧ Below w.heap.size w w' := by
  obtain ⟨W, hW⟩ : ∃ W, W = w.alloc (.cells #[.slice A x.key.length C, .slice B x.val.length D] 53) := ⟨_, rfl⟩
  have q : Below w.heap.size w W := by rw [hW]; exact (Below.refl _ _).alloc (Nat.le_refl _) _
  have bn : BoxN W w.heap.size 53 [.slice A x.key.length C, .slice B x.val.length D] := by rw [hW]; exact BoxN.new _ _ _
  go_enter Try.func59, Try.ntmps59
  go_upto_region 1 with (fail)
  rw [← hW]
  clear hW
  have b0 := bn.cell (i := 0) rfl
  go_wp2_with fail
  refine (compare_any W (hx.below q) (hk.below q)).mono ?_
  rintro e w1 ⟨rfl, rfl⟩
  go_wp2_with fail
  go_ret
  exact ⟨rfl, q⟩
set_option maxRecDepth 100000 in
set_option maxHeartbeats 4000000 in
theorem bsearchP_any (w : World) {S S2 : Nat → Prop} {a a2 : Option Addr} {n c n2 c2 : Nat} {l : List Pq} {k : List UInt8} (hl : RdL Elt.pq S w (.slice a n c) l) (hk : RdS S2 w (.slice a2 n2 c2) k) (hn : n ≤ 2000000) (hs : SrtQ l) :
    Calls Try.prog 58 #[.slice a n c, .slice a2 n2 c2, .func (.func 59) #[] #[]] w fun e w' => e = .returned (.tuple #[.int .i64 (plcQ l k), .bool (isQ l k)]) ∧ Below w.heap.size w w' := by
  obtain ⟨m, hmq⟩ : ∃ m, m = plcQ l k := ⟨_, rfl⟩
  obtain ⟨is, his0⟩ : ∃ is, is = isQ l k := ⟨_, rfl⟩
  have hm : m ≤ l.length := by rw [hmq]; exact plcQ_le l k
  have h1 : ∀ i (h : i < l.length), ltB l[i].key k = decide (i < m) := by rw [hmq]; exact plcQ_lt hs
  have his : is = decide ((l[m]?).map Pq.key = some k) := by rw [his0, hmq]; rfl
  rw [← hmq, ← his0]
  clear hmq his0 hs
  obtain ⟨rfl, hnc, hcm⟩ := hl.len
  have q := Below.refl w.heap.size w
  have hEE := enters_of Try.func59 (by kernel_rfl) rfl
  go_enter Try.func58, Try.ntmps58
  go_upto_region 3 with (fail)
  go_loopw [9, 10] (fun iv jv wr => ∃ (i j : Nat), iv = .int .i64 i ∧ jv = .int .i64 j ∧ i ≤ m ∧ m ≤ j ∧ j ≤ l.length ∧ Below w.heap.size w wr)
    (fun i j _ => (intOf j).toNat - (intOf i).toNat)
  case atStart => exact ⟨0, l.length, rfl, rfl, Nat.zero_le _, hm, Nat.le_refl _, q⟩
  case round =>
    clear q
    obtain ⟨i, j, rfl, rfl, him, hmj, hjn, q⟩ := hrel
    rcases Nat.lt_or_ge i j with hlt | hge
    · obtain ⟨h, hh⟩ : ∃ h : Nat, h = (i + j) / 2 := ⟨_, rfl⟩
      have e : ((i : Int) + (j : Int)) / 2 = (h : Int) := by omega
      have hih : i ≤ h := by omega
      have hhj : h < j := by omega
      clear hh
      obtain ⟨b, off, A, C, A2, C2, rfl, hb, c0, c1, hr, hr2⟩ := (hl.below q).pq h (by omega)
      have hlth := h1 h (by omega)
      have hcl := cmp_lt l[h].key k
      rw [hlth] at hcl
      obtain ⟨y, hy⟩ : ∃ y, y = l[h] := ⟨_, rfl⟩
      rw [← hy] at hr hr2 c0 c1 hcl
      clear hy hlth hb
      go_wp2_with fail
      clear e
      refine (dCmp_any wr hr (hk.below q)).mono ?_
      rintro e w1 ⟨rfl, hb1⟩
      replace q := q.trans (hb1.mono q.size)
      clear c0 c1 hr hr2 hb1
      rcases Nat.lt_or_ge h m with h2 | h2
      · rw [decide_eq_true h2] at hcl
        go_wp2_with fail
        go_roundw
        case rel => exact ⟨h + 1, j, by go_num, rfl, by omega, hmj, hjn, q⟩
        case measure => simp [intOf]; omega
      · rw [decide_eq_false (by omega : ¬ h < m)] at hcl
        go_wp2_with fail
        go_roundw
        case rel => exact ⟨i, h, rfl, rfl, him, by omega, by omega, q⟩
        case measure => simp [intOf]; omega
    · obtain rfl : i = m := by omega
      rcases Nat.lt_or_ge i l.length with hlt | hge2
      · have d : decide ((i : Int) < (l.length : Int)) = true := decide_eq_true (by omega)
        obtain ⟨b, off, A, C, A2, C2, rfl, hb, c0, c1, hr, hr2⟩ := (hl.below q).pq i hlt
        have hce := cmp_eq l[i].key k
        have hans : decide ((l[i]?).map Pq.key = some k) = decide (l[i].key = k) := by rw [List.getElem?_eq_getElem hlt]; simp
        rw [hans, ← hce] at his
        clear hans hce hb
        generalize l[i] = y at hr hr2 c0 c1 his
        have HI := Lib.hid his
        clear his
        go_wp2_with fail
        refine (dCmp_any wr hr (hk.below q)).mono ?_
        rintro e w1 ⟨rfl, hb1⟩
        go_wp2_with fail
        go_ret2
        exact ⟨by rw [HI.out]; rfl, q.trans (hb1.mono q.size)⟩
      · have d : decide ((i : Int) < (l.length : Int)) = false := decide_eq_false (by omega)
        have hans : decide ((l[i]?).map Pq.key = some k) = false := by rw [List.getElem?_eq_none hge2]; simp
        rw [hans] at his
        subst his
        clear hans
        go_wp2_with fail
        go_ret2
        exact ⟨rfl, q⟩
end Go.Proofs.Ytjbdkhddnblieaa
namespace Go.Proofs.Ytjbdkhddnblieaa
open Go.RowKit Go.Shelf
section
variable {α : Type} {E : Elt α} {S : Nat → Prop} {w w' : World}
theorem Flat.drop : ∀ {xs : List α} {vs : List Value} (_ : Flat E S w xs vs) (k : Nat), Flat E S w (xs.drop k) (vs.drop (k * E.size))
  | [], _, h, k => by cases h; simp [Flat]
  | x :: xs, _, h, 0 => by simpa using h
  | x :: xs, _, ⟨us, ws, rfl, h1, h2⟩, k + 1 => by
    have hl := E.len h1
    rw [List.drop_succ_cons, show (k + 1) * E.size = us.length + k * E.size by rw [hl, Nat.add_mul]; omega, ← List.drop_drop, List.drop_left]
    exact Flat.drop h2 k
theorem Flat.cut {xs : List α} {vs : List Value} (h : Flat E S w xs vs) {m : Nat} (hm : m < xs.length) :
    ∃ us, E.R S w xs[m] us ∧ vs = vs.take (m * E.size) ++ us ++ vs.drop ((m + 1) * E.size) ∧ Flat E S w (xs.take m) (vs.take (m * E.size)) ∧ Flat E S w (xs.drop (m + 1)) (vs.drop ((m + 1) * E.size)) := by
  have h1 := Flat.drop h m
  rw [List.drop_eq_getElem_cons hm] at h1
  obtain ⟨us, ws, e, h2, h3⟩ := h1
  have hl := E.len h2
  have e2 : vs.drop ((m + 1) * E.size) = ws := by
    rw [show (m + 1) * E.size = m * E.size + us.length by rw [hl, Nat.add_mul]; omega, ← List.drop_drop, e, List.drop_left]
  refine ⟨us, h2, ?_, Flat.take h m, Flat.drop h (m + 1)⟩
  rw [e2, List.append_assoc, ← e, List.take_append_drop]
theorem OwnL.rowQ {Te : TypeId} {base lo : Nat} {v : Value} {xs : List α} (h : OwnL E Te base lo w v xs) : ∃ vs, RowQ Te E.size w v xs.length vs ∧ Flat E (fun k => lo ≤ k ∧ k < w.heap.size ∧ some k ≠ v.ownBlock) w xs vs := by
  obtain ⟨vs, h1, h2⟩ := h
  exact ⟨vs, ⟨⟨h1.1, h1.2.imp id fun ⟨g, cap, cur, a, b, c⟩ => ⟨g, cap, cur, a, Nat.zero_le _, c⟩⟩, h2.one⟩, h2⟩
theorem OwnL.rowTo {Te : TypeId} {base lo : Nat} {v v' : Value} {xs xs' : List α} {vs' : List Value} {n' : Nat} (h : OwnL E Te base lo w v xs) (hT : RowTo Te E.size w v n' vs' v' w') (hF : Flat E (fun k => lo ≤ k ∧ k < w.heap.size ∧ some k ≠ v.ownBlock) w xs' vs') (hn : n' = xs'.length) (hb : base ≤ w.heap.size) : OwnL E Te base lo w' v' xs' := by
  obtain ⟨hq, hg, hv⟩ := hT
  subst hn
  have hne : ∀ g, v'.ownBlock = some g → base ≤ g := fun g e2 => by
    rcases hv with hv | ⟨k, hv, hk⟩
    · exact (h.block_lt g (hv.symm.trans e2)).1
    · rw [e2] at hv; injection hv with hv; omega
  refine ⟨vs', ⟨hq.1.1, ?_⟩, (hF.keep fun k hk => hg.block k hk.2.1 hk.2.2).weak fun k hk => ⟨hk.1, Nat.lt_of_lt_of_le hk.2.1 hg.size, ?_⟩⟩
  · rcases hq.1.2 with h1 | ⟨g, cap, cur, e, _, c⟩
    · exact .inl h1
    · exact .inr ⟨g, cap, cur, e, hne g (by rw [e]; rfl), c⟩
  · rcases hv with hv | ⟨j, hv, hj⟩
    · rw [hv]; exact hk.2.2
    · rw [hv]; intro e; injection e with e; omega
end
def RowEnd (w : World) (base lo : Nat) (r : Option Nat) (l : List Pq) (e : Ending) (w' : World) : Prop := ∃ a c, e = .returned (.slice a l.length c) ∧ OwnL Elt.pq 53 base lo w' (.slice a l.length c) l ∧ w.grownBy w' r ∧ (Value.ownBlock (.slice a l.length c) = r ∨ ∃ k, Value.ownBlock (.slice a l.length c) = some k ∧ w.heap.size ≤ k)
set_option maxRecDepth 100000 in
set_option maxHeartbeats 8000000 in
theorem done_any (w : World) {S : Nat → Prop} {base lo : Nat} {v p : Value} {cur : List Pq} {u : Wr} (hO : OwnL Elt.pq 53 base lo w v cur) (hs : SrtQ cur) (hn : cur.length ≤ 999999) (hu : RdWr S w p u) (hS : ∀ k, S k → lo ≤ k ∧ k < w.heap.size ∧ some k ≠ v.ownBlock) (hbase : base ≤ w.heap.size) :
    Calls Try.prog 46 #[v, p] w (RowEnd w base lo v.ownBlock (doneW u cur)) := by
  obtain ⟨KA, KC, VA, VC, rfl, hk, hv, ht⟩ := hu
  have hob := hO.block_lt
  obtain ⟨a, c, rfl⟩ := hO.shape
  obtain ⟨W, hW⟩ : ∃ W, W = w.alloc (.cells #[.int .i64 u.table, .slice KA u.key.length KC, .bool u.gone, .slice VA u.val.length VC] 28) := ⟨_, rfl⟩
  have q : Below w.heap.size w W := by rw [hW]; exact (Below.refl _ _).alloc (Nat.le_refl _) _
  have bn : BoxN W w.heap.size 28 [.int .i64 u.table, .slice KA u.key.length KC, .bool u.gone, .slice VA u.val.length VC] := by rw [hW]; exact BoxN.new _ _ _
  obtain ⟨m, hmq⟩ : ∃ m, m = plcQ cur u.key := ⟨_, rfl⟩
  have hm : m ≤ cur.length := by rw [hmq]; exact plcQ_le _ _
  have hins := Lib.hid (insE_at (p := ⟨u.key, u.val⟩) hs)
  have hdel := Lib.hid (delE_at (k := u.key) hs)
  have hiq : isQ cur u.key = true → ∃ h : m < cur.length, cur[m].key = u.key := fun h => by
    have h2 : (cur[m]?).map Pq.key = some u.key := by rw [hmq]; exact of_decide_eq_true h
    cases h3 : cur[m]? with
    | none => rw [h3] at h2; cases h2
    | some y =>
      obtain ⟨h4, h5⟩ := List.getElem?_eq_some_iff.1 h3
      rw [h3] at h2
      injection h2 with h2
      exact ⟨h4, by rw [h5]; exact h2⟩
  replace hS := Lib.hid hS
  replace hiq := Lib.hid hiq
  replace hob := Lib.hid hob
  go_enter Try.func46, Try.ntmps46
  go_upto_region 1 with (fail)
  rw [← hW]
  clear hW
  have b1 := bn.cell (i := 1) rfl
  go_wp2_with fail
  refine (bsearchP_any W ((hO.below q).rdL) (hk.below q) (by omega) hs).mono ?_
  rintro e w1 ⟨rfl, hb1⟩
  rw [← hmq]
  replace hmq := Lib.hid hmq
  replace hs := Lib.hid hs
  have q1 := q.trans (hb1.mono q.size)
  have bn1 := bn.below hb1 bn.lt
  have hO1 := hO.below q1
  have hk1 := hk.below q1
  have hv1 := hv.below q1
  have hz1 := q1.size
  have hzb := bn.lt
  have hzb1 := hb1.size
  clear b1
  have b1 := bn1.cell (i := 1) rfl
  have b2 := bn1.cell (i := 2) rfl
  have b3 := bn1.cell (i := 3) rfl
  have hgr := Lib.hid (show ∀ r, w.grownBy w1 r from fun r => grownB q1 r)
  cases his : isQ cur u.key with
  | true =>
    obtain ⟨hml, hkey⟩ := hiq.out his
    cases hgo : u.gone with
    | true =>
      rw [hgo] at b2
      have HD := Lib.hid (show doneW u cur = cur.take m ++ cur.drop (m + 1) by unfold doneW; rw [if_pos hgo, hdel.out, if_pos his, hmq.out])
      clear his hgo hiq hkey
      obtain ⟨vs, hQ, hF⟩ := hO1.rowQ
      go_wp2_with fail
      refine (delete_p w1 hQ hml rfl (by omega)).mono ?_
      rintro e w2 ⟨v', rfl, hT⟩
      have hO2 := hO1.rowTo hT ((Flat.take hF m).append (Flat.drop hF (m + 1))) (by simp; omega) (by omega)
      have hg2 := hT.2.1
      rw [← HD.out] at hO2
      obtain ⟨a', c', rfl⟩ := hO2.shape
      go_wp2_with fail
      go_ret
      exact ⟨a', c', rfl, hO2, grownT (hgr.out _) hg2, hT.2.2.imp id fun ⟨k, h1, h2⟩ => ⟨k, h1, Nat.le_trans (hgr.out none).size h2⟩⟩
    | false =>
      rw [hgo] at b2
      have HD := Lib.hid (show doneW u cur = cur.take m ++ ⟨u.key, u.val⟩ :: cur.drop (m + 1) by unfold doneW; rw [if_neg (by rw [hgo]; simp), hins.out, if_pos his, hmq.out])
      replace hkey := Lib.hid hkey
      clear his hgo hiq
      obtain ⟨vs, h1, hF⟩ := hO1
      obtain ⟨g, cp, cells, ev, hbg, hgc, hnc, hcm, hcs, hct⟩ : ∃ g cap cells, Value.slice a cur.length c = .slice (some ⟨g, 0, none⟩) cur.length cap ∧ base ≤ g ∧ w1.heap[g]? = some (.cells cells 53 (0, 0)) ∧ cur.length ≤ cap ∧ cap ≤ maxLen ∧ cells.size = cap * 2 ∧ cells.toList.take (cur.length * 2) = vs := by
        rcases h1.2 with ⟨_, h2⟩ | h2
        · omega
        · exact h2
      obtain ⟨rfl, rfl⟩ : a = some ⟨g, 0, none⟩ ∧ c = cp := by injection ev with e1 _ e3; exact ⟨e1, e3⟩
      have hB : BoxN w1 g 53 cells.toList := by unfold BoxN; rw [hgc]
      have hjl : m * 2 + 1 < cells.toList.length := by rw [Array.length_toList, hcs]; omega
      have hvl := Lib.hid (show vs.length = cur.length * 2 from h1.1)
      replace h1 := Lib.hid h1
      replace hct := Lib.hid hct
      replace hcs := Lib.hid hcs
      clear ev
      go_wp2_with (first | (refine wpList_boxSet (vs := cells.toList) (j := m * 2 + 1) (u := .slice VA u.val.length VC) rfl rfl rfl (by kernel_rfl) rfl rfl rfl rfl hB hjl ?_; intro w2 hg2 hB2) | fail)
      go_ret
      obtain ⟨us, hR, hvs, hF1, hF2⟩ := hF.cut hml
      obtain ⟨kc, vc, rfl, hRk, hRv⟩ := hR
      have hset : vs.set (m * 2 + 1) (.slice VA u.val.length VC) = vs.take (m * 2) ++ [kc, .slice VA u.val.length VC] ++ vs.drop ((m + 1) * 2) := by
        have e : (vs.take (m * 2)).length = m * 2 := by rw [List.length_take]; have := hvl.out; omega
        conv => lhs; rw [show vs = vs.take (m * 2) ++ [kc, vc] ++ vs.drop ((m + 1) * 2) from hvs]
        rw [List.append_assoc, List.set_append, if_neg (by omega), e, show m * 2 + 1 - m * 2 = 1 by omega, List.append_assoc]
        rfl
      have hne : ∀ k, lo ≤ k ∧ k < w1.heap.size ∧ some k ≠ Value.ownBlock (.slice (some ⟨g, 0, none⟩) cur.length c) → w2.heap[k]? = w1.heap[k]? := fun k hk => hg2.block k hk.2.1 hk.2.2
      have hsz2 := hg2.size
      have hlen : (doneW u cur).length = cur.length := by rw [HD.out]; simp; omega
      rw [RowEnd]
      refine ⟨some ⟨g, 0, none⟩, c, by rw [hlen]; rfl, ?_, grownT (hgr.out _) hg2, .inl rfl⟩
      rw [hlen]
      refine ⟨vs.set (m * 2 + 1) (.slice VA u.val.length VC), ⟨by rw [List.length_set, hlen]; exact h1.out.1, .inr ⟨g, c, (cells.toList.set (m * 2 + 1) (.slice VA u.val.length VC)).toArray, by rw [hlen], hbg, hB2, by omega, hcm, ?_, ?_⟩⟩, ?_⟩
      · rw [List.size_toArray, List.length_set, Array.length_toList]; exact hcs.out
      · rw [hlen, ← hct.out, List.take_set]; rfl
      · rw [hset, HD.out]
        have hRn : Elt.pq.R (fun k => lo ≤ k ∧ k < w1.heap.size ∧ some k ≠ Value.ownBlock (.slice (some ⟨g, 0, none⟩) cur.length c)) w1 ⟨u.key, u.val⟩ [kc, .slice VA u.val.length VC] := ⟨_, _, rfl, by rw [← hkey.out]; exact hRk, hv1.weak fun k hk => by
          have := hS.out k hk
          exact ⟨this.1, by omega, this.2.2⟩⟩
        have hall := (hF1.append ((Flat.single hRn).append hF2)).keep hne
        rw [List.append_assoc]
        exact hall.weak fun k hk => ⟨hk.1, by omega, hk.2.2⟩
  | false =>
    cases hgo : u.gone with
    | true =>
      rw [hgo] at b2
      have HD := Lib.hid (show doneW u cur = cur by unfold doneW; rw [if_pos hgo, hdel.out, if_neg (by rw [his]; simp)])
      clear his hgo hiq
      go_wp2_with fail
      go_ret
      rw [RowEnd, HD.out]
      exact ⟨_, _, rfl, hO1, hgr.out _, .inl rfl⟩
    | false =>
      rw [hgo] at b2
      have HD := Lib.hid (show doneW u cur = cur.take m ++ ⟨u.key, u.val⟩ :: cur.drop m by unfold doneW; rw [if_neg (by rw [hgo]; simp), hins.out, if_neg (by rw [his]; simp), hmq.out])
      clear his hgo hiq
      go_wp2_with (first | (refine wpList_buildOne pqP rfl rfl rfl (us := [.slice KA u.key.length KC, .slice VA u.val.length VC]) rfl rfl (by decide) (by decide) ?_; intro w2 hb2 hrow) | fail)
      have hO2 := hO1.below hb2
      obtain ⟨vs, hQ, hF⟩ := hO2.rowQ
      have hz2 := hb2.size
      refine (insert_p w2 hQ hm (by omega) (by decide) hrow rfl (fun y hy => by
        simp only [List.mem_cons, List.not_mem_nil, or_false] at hy
        rcases hy with rfl | rfl <;> rfl) (fun e => by have := hob.out _ e; omega)).mono ?_
      rintro e w3 ⟨v', rfl, hT⟩
      have hRn : Elt.pq.R (fun k => lo ≤ k ∧ k < w2.heap.size ∧ some k ≠ Value.ownBlock (.slice a cur.length c)) w2 ⟨u.key, u.val⟩ [.slice KA u.key.length KC, .slice VA u.val.length VC] := ⟨_, _, rfl, (hk1.below hb2).weak fun k hk => by
          have := hS.out k hk
          exact ⟨this.1, by omega, this.2.2⟩, (hv1.below hb2).weak fun k hk => by
          have := hS.out k hk
          exact ⟨this.1, by omega, this.2.2⟩⟩
      have hO3 := hO2.rowTo (xs' := cur.take m ++ ⟨u.key, u.val⟩ :: cur.drop m) hT (by rw [List.append_assoc]; exact (Flat.take hF m).append ((Flat.single hRn).append (Flat.drop hF m))) (by simp; omega) (by omega)
      have hg2 := hT.2.1
      rw [← HD.out] at hO3
      obtain ⟨a', c', rfl⟩ := hO3.shape
      go_wp2_with fail
      go_ret
      exact ⟨a', c', rfl, hO3, grownT (grownT (hgr.out _) (grownB hb2 _)) hg2, hT.2.2.imp id fun ⟨k, h1, h2⟩ => ⟨k, h1, Nat.le_trans (hgr.out none).size (Nat.le_trans hb2.size h2)⟩⟩
end Go.Proofs.Ytjbdkhddnblieaa
namespace Go.Proofs.Ytjbdkhddnblieaa
open Go.RowKit Go.Shelf
set_option maxRecDepth 100000 in
set_option maxHeartbeats 8000000 in
theorem dOver_any (w : World) {S S2 S3 : Nat → Prop} {v v2 : Value} {d : Dl} {x0 : Sp} {aq : Option Addr} {n cq : Nat} {l : List Pq} (h : RdDl S w v d) (hx : RdSp S2 w v2 x0) (hl : RdL Elt.pq S3 w (.slice aq n cq) l) (hs : smQ l) (hn : l.length ≤ 900000) :
    Calls Try.prog 26 #[v, v2, .slice aq n cq] w (PqEnd w (overD d x0 l)) := by
  have hd := h
  obtain ⟨a, c, a2, c2, rfl, hw, hm⟩ := h
  obtain ⟨a', c', a2', c2', rfl, hlo', hhi', hxt⟩ := hx
  replace hlo' := hlo'.fit
  replace hhi' := hhi'.fit
  obtain ⟨rfl, hnc, hcm⟩ := hl.len
  obtain ⟨W0, hW, q, bn, bx, hsz⟩ := boxes2 w 25 39 [.slice a d.writes.length c, .slice a2 d.marks.length c2] [.int .i64 x0.table, .slice a' x0.lo.length c', .slice a2' x0.hi.length c2', .bool x0.isOpen]
  have hsz2 : w.heap.size + 2 ≤ W0.heap.size := by omega
  clear hsz
  go_enter Try.func26, Try.ntmps26
  go_upto_region 1 with (fail)
  rw [show (w.alloc (.cells #[.slice a d.writes.length c, .slice a2 d.marks.length c2] 25)).alloc (.cells #[.int .i64 x0.table, .slice a' x0.lo.length c', .slice a2' x0.hi.length c2', .bool x0.isOpen] 39) = W0 from hW.symm]
  clear hW
  go_wp2_with fail
  refine (dPairs_any W0 (hl.below q) hs).mono ?_
  rintro e w1 ⟨a1, c1, rfl, hO, hb1⟩
  have q1 := q.trans (hb1.mono q.size)
  have z1 := hb1.size
  replace bn := bn.below hb1 bn.lt
  replace bx := bx.below hb1 bx.lt
  clear q hb1
  go_wp2_with fail
  refine (rise_any w1 (hl.below q1)).mono ?_
  rintro e w2 ⟨he, hb2⟩
  have q2 := q1.trans (hb2.mono q1.size)
  have z2 := hb2.size
  have hr0 : ∀ k, Value.ownBlock (.slice a1 l.length c1) = some k → W0.heap.size ≤ k ∧ k < w1.heap.size := fun k hk => hO.block_lt k hk
  replace hO := hO.below hb2
  replace bn := bn.below hb2 bn.lt
  replace bx := bx.below hb2 bx.lt
  clear q1 hb2
  by_cases hsrt : SrtQ l
  case neg =>
    rw [decide_eq_false hsrt] at he
    subst he
    have HK := Lib.hid (show overD d x0 l = l by unfold overD; rw [if_neg hsrt])
    clear hsrt
    go_wp2_with fail
    go_ret
    rw [HK.out]
    exact ⟨_, _, rfl, hO.to (by omega) (by omega), q2⟩
  case pos =>
  rw [decide_eq_true hsrt] at he
  subst he
  replace hsrt := Lib.hid hsrt
  have b0 := bn.cell (i := 0) rfl
  have b1 := bn.cell (i := 1) rfl
  have hla := dLast_any w2 (hd.below q2)
  go_wp2_with fail
  refine hla.mono ?_
  rintro e w3 ⟨la, lc, rfl, hL, hb3⟩
  clear hla b0 b1
  have q3 := q2.trans (hb3.mono q2.size)
  have z3 := hb3.size
  replace hO := hO.below hb3
  replace bx := bx.below hb3 bx.lt
  have hWs : RdL Elt.wr (fun k => w2.heap.size ≤ k ∧ k < w3.heap.size) w3 (.slice la (lastD d).length lc) (lastD d) := hL.rdS fun k hk hl => ⟨by omega, hl⟩
  have hwl : (lastD d).length ≤ 20 := by
    unfold lastD
    split
    · rename_i h; exact Nat.le_trans (last_len _) h.1
    · simp
  obtain ⟨ws, ews⟩ : ∃ ws, ws = lastD d := ⟨_, rfl⟩
  rw [← ews] at hWs hwl
  rw [← ews]
  have HD := Lib.hid (show overD d x0 l = overW x0 ws l by unfold overD; rw [if_pos hsrt.out, ews])
  clear ews hL hb3 q2 bn hd
  obtain ⟨r0, er0⟩ : ∃ r0, r0 = Value.ownBlock (.slice a1 l.length c1) := ⟨_, rfl⟩
  rw [← er0] at hr0
  have hrS : ∀ k, r0 = some k → ¬ (w2.heap.size ≤ k ∧ k < w3.heap.size) := fun k hk h2 => by have := hr0 k hk; omega
  have hrX : ∀ k, r0 = some k → ¬ (S2 k ∧ k < w.heap.size) := fun k hk h2 => by have := hr0 k hk; omega
  have hrB : r0 ≠ some (w.heap.size + 1) := fun e => by have := hr0 _ e; omega
  go_upto_region 5 with (fail)
  go_loopw [7, 19] (fun ov iv wr => ∃ (i : Nat) (ad : Option Addr) (ko : Nat) (cur : List Pq), iv = .int .i64 i ∧ i ≤ ws.length ∧ ov = .slice ad cur.length ko ∧ OwnL Elt.pq 53 W0.heap.size W0.heap.size wr (.slice ad cur.length ko) cur ∧ cur.length ≤ 900000 + i ∧ RowKit.Hid (cur = overW x0 (ws.take i) l ∧ SrtQ cur) ∧ w3.grownBy wr r0 ∧ (Value.ownBlock (.slice ad cur.length ko) = r0 ∨ ∃ k, Value.ownBlock (.slice ad cur.length ko) = some k ∧ w3.heap.size ≤ k))
    (fun _ i _ => ws.length - (intOf i).toNat)
  case atStart => exact ⟨0, a1, c1, l, rfl, Nat.zero_le _, rfl, hO, by omega, Lib.hid ⟨rfl, hsrt.out⟩, grownB (Below.refl _ _) _, .inl er0.symm⟩
  case round =>
    clear hO er0
    obtain ⟨i, ad, ko, cur, rfl, hil, rfl, hO, hcl, hcur, hg, hob⟩ := hrel
    have bxr := bx.other hg hrB
    have hsz3 := hg.size
    have hloR := (hlo'.below q3).grownR hg hrX
    have hhiR := (hhi'.below q3).grownR hg hrX
    rcases Nat.lt_or_ge i ws.length with hlt | hge
    · obtain ⟨ub, uo, KA, KC, VA, VC, rfl, hub, c0, c1, c2, c3, hk1, hk2, hut⟩ := (hWs.grownR hg hrS).wr i hlt
      have htk := Lib.hid (show ws.take (i + 1) = ws.take i ++ [ws[i]] from List.take_succ_eq_append_getElem hlt)
      obtain ⟨u, eu⟩ : ∃ u, u = ws[i] := ⟨_, rfl⟩
      rw [← eu] at c0 c1 c2 c3 hk1 hk2 hut htk
      clear eu hub
      go_upto_region 7 with (first | (refine wpList_boxNew (vs := [.int .i64 0, .slice none 0 0, .bool false, .slice none 0 0]) (by kernel_rfl) rfl rfl ?_; intro wa2 hba hBa) | (refine wpList_boxStore (us := [.int .i64 u.table, .slice KA u.key.length KC, .bool u.gone, .slice VA u.val.length VC]) (by kernel_rfl) rfl rfl rfl rfl rfl rfl hBa rfl ?_; intro W4 hgw hU) | fail)
      go_simp
      have hbw : Below wr.heap.size wr W4 := hba.grown hgw hba.size fun k hk => by injection hk with hk; omega
      have hz4 := hbw.size
      replace bxr := bxr.below hbw bxr.lt
      have huw : RdWr (fun k => w2.heap.size ≤ k ∧ k < w3.heap.size) W4 (.agg #[.int .i64 u.table, .slice KA u.key.length KC, .bool u.gone, .slice VA u.val.length VC]) u := RdWr.below ⟨KA, KC, VA, VC, rfl, hk1, hk2, hut⟩ hbw
      have hxw : RdSp (fun k => S2 k ∧ k < w.heap.size) W4 (.agg #[.int .i64 x0.table, .slice a' x0.lo.length c', .slice a2' x0.hi.length c2', .bool x0.isOpen]) x0 := ⟨a', c', a2', c2', rfl, hloR.below hbw, hhiR.below hbw, hxt⟩
      replace hO := hO.below hbw
      have hg4 := grownT hg (grownB hbw r0)
      clear c0 c1 c2 c3 hba hBa hgw hk1 hk2 hloR hhiR
      have f0 := bxr.cell (i := 0) rfl
      have f1 := bxr.cell (i := 1) rfl
      have f2 := bxr.cell (i := 2) rfl
      have f3 := bxr.cell (i := 3) rfl
      have g0 := hU.cell (i := 0) rfl
      have g1 := hU.cell (i := 1) rfl
      have g2 := hU.cell (i := 2) rfl
      have g3 := hU.cell (i := 3) rfl
      go_wp2_with fail
      refine (in_any W4 huw hxw).mono ?_
      rintro e W5 ⟨rfl, hb5⟩
      have hz5 := hb5.size
      replace hU := hU.below hb5 hU.lt
      replace huw := huw.below hb5
      replace hO := hO.below hb5
      have hg5 := grownT hg4 (grownB hb5 r0)
      clear f0 f1 f2 f3 g0 g1 g2 g3 hxw hb5 hg4 hbw hg bxr
      cases hin : (decide (u.table = x0.table) && inS x0 u.key) with
      | false =>
        have hneg := Lib.hid (show ¬ (u.table = x0.table ∧ inS x0 u.key = true) from fun h => by rw [decide_eq_true h.1, h.2] at hin; cases hin)
        clear hin
        go_wp2_with fail
        go_roundw
        case rel => exact ⟨i + 1, ad, ko, cur, by go_num, by omega, rfl, hO, by omega, Lib.hid ⟨by rw [htk.out, overW_snoc, ← hcur.out.1, stepW, if_neg hneg.out], hcur.out.2⟩, hg5, hob⟩
        case measure => simp [intOf]; omega
      | true =>
        have hpos : u.table = x0.table ∧ inS x0 u.key = true := by
          rw [Bool.and_eq_true, decide_eq_true_eq] at hin; exact hin
        have hstep := Lib.hid (show doneW u cur = overW x0 (ws.take (i + 1)) l by rw [htk.out, overW_snoc, ← hcur.out.1, stepW, if_pos hpos])
        have hds := Lib.hid (done_srt (w := u) hcur.out.2)
        have hdl := done_len u cur
        clear hin hpos
        have g0 := hU.cell (i := 0) rfl
        have g1 := hU.cell (i := 1) rfl
        have g2 := hU.cell (i := 2) rfl
        have g3 := hU.cell (i := 3) rfl
        have hdn := done_any W5 hO hcur.out.2 (by omega) huw (fun k hk => ⟨by omega, by omega, fun e => by
          rcases hob with h1 | ⟨j, h1, h2⟩
          · rw [h1] at e
            exact hrS k e.symm hk
          · rw [h1] at e
            injection e with e
            omega⟩) (by omega)
        go_wp2_with fail
        refine hdn.mono ?_
        rintro e W6 ⟨ad6, c6, rfl, hO6, hg6, hob6⟩
        clear hdn g0 g1 g2 g3
        have hg36 : w3.grownBy W6 r0 := World.grownBy.andThen hg5 hg6 fun j hj => by
          rcases hob with h1 | ⟨k, h1, h2⟩
          · exact .inr (h1.symm.trans hj)
          · rw [h1] at hj
            injection hj with hj
            exact .inl (by omega)
        have hob7 : Value.ownBlock (.slice ad6 (doneW u cur).length c6) = r0 ∨ ∃ k, Value.ownBlock (.slice ad6 (doneW u cur).length c6) = some k ∧ w3.heap.size ≤ k := by
          rcases hob6 with h1 | ⟨k, h1, h2⟩
          · rw [h1]; exact hob
          · exact .inr ⟨k, h1, by omega⟩
        clear hO hob hob6 hg6 hU huw
        go_wp2_with fail
        go_roundw
        case rel => exact ⟨i + 1, ad6, c6, doneW u cur, by go_num, by omega, rfl, hO6, by omega, Lib.hid ⟨hstep.out, hds.out⟩, hg36, hob7⟩
        case measure => simp [intOf]; omega
    · obtain rfl : i = ws.length := by omega
      have hfin := Lib.hid (show cur = overW x0 ws l by have := hcur.out.1; rwa [List.take_length] at this)
      clear hloR hhiR bxr
      go_wp2_with fail
      go_ret
      rw [PqEnd, HD.out, ← hfin.out]
      exact ⟨_, _, rfl, hO.to (by omega) (by omega), q3.grown hg q3.size fun k hk => by have := hr0 k hk; omega⟩
end Go.Proofs.Ytjbdkhddnblieaa
namespace Go.Proofs.Ytjbdkhddnblieaa
open Go.RowKit Go.Shelf
def wB8 : Wr := ⟨0, [98], false, [118]⟩
def wA8 : Wr := ⟨0, [97], true, []⟩
def dA8 : Dl := ⟨[wB8], []⟩
def dB8 : Dl := ⟨[wB8], [1]⟩
def dC8 : Dl := ⟨[wB8, wA8], [1]⟩
theorem put8_1 : putD ⟨[], []⟩ wB8 = (dA8, 0) := by decide
theorem mark8 : markD dA8 = (dB8, 0) := by decide
theorem put8_2 : putD dB8 wA8 = (dC8, 0) := by decide
theorem find8 : findD dC8 ⟨0, [97]⟩ = some wA8 := by decide
theorem last8 : lastD dC8 = [wA8, wB8] := by decide
theorem over8 : overD dC8 ⟨0, [], [], true⟩ [⟨[97], []⟩, ⟨[99], []⟩] = [⟨[98], [118]⟩, ⟨[99], []⟩] := by decide
theorem back8_0 : backD dC8 0 = (dB8, 0) := by decide
theorem back8_1 : backD dC8 1 = (dC8, 1) := by decide
theorem find8_n : findD dB8 ⟨0, [97]⟩ = none := by decide
theorem put8_3 : putD dC8 ⟨4, [], false, []⟩ = (dC8, 1) := by decide
theorem ok8 : okD dC8 := by decide
theorem sm8_0 : smD ⟨[], []⟩ := by unfold smD; simp
theorem sm8_A : smD dA8 := by unfold smD dA8 wB8; simp
theorem sm8_B : smD dB8 := by unfold smD dB8 wB8; simp
theorem sm8_C : smD dC8 := by unfold smD dC8 wB8 wA8; simp
theorem fnd_some {w w' : World} {r : Wr} {e : Ending} (h : FndEnd w (some r) e w') : ∃ v', e = .returned (.tuple #[v', .bool true]) ∧ RdWr (fun k => w.heap.size ≤ k ∧ k < w'.heap.size) w' v' r ∧ Below w.heap.size w w' := h
theorem fnd_none {w w' : World} {e : Ending} (h : FndEnd w none e w') : ∃ v', e = .returned (.tuple #[v', .bool false]) ∧ RdWr (fun k => w.heap.size ≤ k ∧ k < w'.heap.size) w' v' noWr ∧ Below w.heap.size w w' := h
section
variable {P : Program} {T E : TypeId} {S : List UInt8 → Nat → Prop} {ops : Array Oper} {rest : List Oper} {o : Oper} {a : Act} {Q : Exit → Act → World → Prop} {w : World}
theorem wpList_byte1 (hP : ByP Try.prog 26 5 9) {o' : Oper} {k : Int} {d : Tmp} (ho : o.op = .buildSlice 26 1 #[(0, .const (.int .u8 k))]) (hgd' : ∀ u, Region.wanted o' (yielded ops (a.put o.dst u).tmps) = true) (hgd : Region.wanted o (yielded ops a.tmps) = true) (hd : o.dst = some d) (hlt : d < a.tmps.size)
    (ho' : o'.op = .convert 26 26 (.tmp d)) (hk : 0 ≤ k ∧ k < 256)
    (h : ∀ u g n w', Below w.heap.size w w' → Rd w'.heap.size w' (.slice (some ⟨g, 0, none⟩) n n) [UInt8.ofNat k.toNat] → wpList Try.prog ops Q rest ((a.put (some d) u).put o'.dst (.slice (some ⟨g, 0, none⟩) n n)) w') : wpList Try.prog ops Q (o :: o' :: rest) a w :=
  wpList_const hP ho hgd' hgd hd hlt ho' [UInt8.ofNat k.toNat] (by
    simp [bv, Act.eval]
    omega) rfl (by simp) h
theorem run_pairs2 (w : World) (u v x y : Value) : (Instr.buildSlice 40 2 #[(0, .agg #[u, v]), (1, .agg #[x, y])]).run Try.prog w = .ok (.slice (some ⟨w.heap.size, 0, none⟩) 2 2) (w.alloc (.cells #[u, v, x, y] 53)) := by
  obtain ⟨i, z, hi, hz, hsz, hby, hzs⟩ := pqP.all
  kernel_rfl
theorem wpList_pairs2 {x1 x2 : Operand} {u v x y : Value} (ho : o.op = .buildSlice 40 2 #[(0, x1), (1, x2)]) (hgd : Region.wanted o (yielded ops a.tmps) = true) (e1 : a.eval x1 = .agg #[u, v]) (e2 : a.eval x2 = .agg #[x, y]) (_ : True = True)
    (h : ∀ w', Below w.heap.size w w' → w'.heap[w.heap.size]? = some (.cells #[u, v, x, y] 53 (0, 0)) → wpList Try.prog ops Q rest (a.put o.dst (.slice (some ⟨w.heap.size, 0, none⟩) 2 2)) w') : wpList Try.prog ops Q (o :: rest) a w := by
  refine BigFrame.wpList_want hgd fun K hK => ?_
  unfold Oper.wp execOp
  simp only [ho, List.map_toArray, List.map_cons, List.map_nil, e1, e2, Sem.run_bind, Sem.run_pure, Result.andThen_ok, run_pairs2]
  exact hK _ _ (h _ ((Below.refl _ _).alloc (Nat.le_refl _) _) (by simp only [World.alloc, Array.getElem?_push_size]))
theorem rdPairs2 {w w' : World} {g1 g2 : Option Addr} {k1 c1 k2 c2 : Nat} {p q : Pq} (hrow : w'.heap[w.heap.size]? = some (.cells #[.slice g1 k1 c1, .slice none 0 0, .slice g2 k2 c2, .slice none 0 0] 53 (0, 0))) (hb : Below w.heap.size w w') (h1 : RdS (fun _ => True) w (.slice g1 k1 c1) p.key) (h2 : RdS (fun _ => True) w (.slice g2 k2 c2) q.key) (hp : p.val = [] := by rfl) (hq : q.val = [] := by rfl) : RdL Elt.pq (fun _ => True) w' (.slice (some ⟨w.heap.size, 0, none⟩) 2 2) [p, q] := by
  have m1 : RdS (fun k => 0 ≤ k ∧ k < w'.heap.size ∧ some k ≠ some w.heap.size) w' (.slice g1 k1 c1) p.key := (h1.fit.below hb).weak fun k hk => ⟨Nat.zero_le _, by have := hb.size; omega, fun e => by injection e with e; omega⟩
  have m2 : RdS (fun k => 0 ≤ k ∧ k < w'.heap.size ∧ some k ≠ some w.heap.size) w' (.slice g2 k2 c2) q.key := (h2.fit.below hb).weak fun k hk => ⟨Nat.zero_le _, by have := hb.size; omega, fun e => by injection e with e; omega⟩
  have hO : OwnL Elt.pq 53 0 0 w' (.slice (some ⟨w.heap.size, 0, none⟩) 2 2) [p, q] := by
    refine ⟨[.slice g1 k1 c1, .slice none 0 0, .slice g2 k2 c2, .slice none 0 0], ⟨rfl, .inr ⟨w.heap.size, 2, _, rfl, Nat.zero_le _, hrow, Nat.le_refl _, by unfold maxLen; omega, rfl, rfl⟩⟩, ?_⟩
    refine ⟨[.slice g1 k1 c1, .slice none 0 0], [.slice g2 k2 c2, .slice none 0 0], rfl, ⟨_, _, rfl, m1, by rw [hp]; exact RdS.nil _ _⟩, [.slice g2 k2 c2, .slice none 0 0], [], rfl, ⟨_, _, rfl, m2, by rw [hq]; exact RdS.nil _ _⟩, rfl⟩
  exact hO.rdL.weak fun _ _ => trivial
end
set_option maxRecDepth 100000 in
set_option maxHeartbeats 8000000 in
theorem awake8_any (w : World) : Calls Try.prog 8 #[] w fun e w' => e = .returned (.bool true) ∧ Below w.heap.size w w' := by
  go_enter Try.func8, Try.ntmps8
  try dsimp only [List.append]
  have q := Below.refl w.heap.size w
  go_wp2_with (first | (have hx := hr1; refine wpList_byte1 byP rfl (fun _ => rfl) rfl rfl (by first | (simp; done) | (simp [Act.put]; done)) rfl (by decide) ?_; clear hx; intro u2 g2 k2 w2 hb2 hr2) | (refine wpList_byte1 byP rfl (fun _ => rfl) rfl rfl (by first | (simp; done) | (simp [Act.put]; done)) rfl (by decide) ?_; intro u1 g1 k1 w1 hb1 hr1) | fail)
  obtain rfl : k1 = 1 := hr1.s.len.1
  replace hr1 : RdS (fun _ => True) _ (.slice (some ⟨g1, 0, none⟩) 1 1) [98] := hr1.s.weak fun _ _ => trivial
  obtain rfl : k2 = 1 := hr2.s.len.1
  replace hr2 : RdS (fun _ => True) _ (.slice (some ⟨g2, 0, none⟩) 1 1) [118] := hr2.s.weak fun _ _ => trivial
  replace q := q.trans (hb1.mono q.size)
  replace hr1 := hr1.below hb2
  replace q := q.trans (hb2.mono q.size)
  clear hb1 hb2
  have hcl := dPut_any w2 (S := fun _ => True) (d := ⟨[], []⟩) (x := wB8) ⟨none, 0, none, 0, rfl, RdL.nil _ _ _, RdL.nil _ _ _⟩ sm8_0 ⟨_, _, _, _, rfl, hr1, hr2, by unfold W64 wB8; decide⟩ (by decide) (by decide)
  rw [put8_1] at hcl
  refine hcl.mono ?_
  rintro e w3 ⟨vA, rfl, ⟨aA, cA, mA, nA, rfl, rwA, rmA⟩, hb⟩
  clear hcl hr1 hr2
  replace rwA : RdL Elt.wr (fun _ => True) _ _ _ := rwA.weak fun _ _ => trivial
  replace rmA : RdL Elt.int (fun _ => True) _ _ _ := rmA.weak fun _ _ => trivial
  replace q := q.trans (hb.mono q.size)
  clear hb
  go_upto_region 2 with (first | (refine wpList_boxNew (vs := [.slice none 0 0, .slice none 0 0]) (by kernel_rfl) rfl rfl ?_; intro wa hba hBa) | (refine wpList_boxStore (us := [.slice aA dA8.writes.length cA, .slice mA dA8.marks.length nA]) (by kernel_rfl) rfl rfl rfl rfl rfl rfl hBa rfl ?_; intro w4 hgw xA) | fail)
  try go_simp
  have hbw := hba.grown hgw hba.size fun k hk => by injection hk with hk; omega
  replace rwA := rwA.below hbw
  replace rmA := rmA.below hbw
  replace q := q.trans (hbw.mono q.size)
  clear hbw hgw hba hBa
  have b0 := xA.cell (i := 0) rfl
  have b1 := xA.cell (i := 1) rfl
  go_wp2_with fail
  have hcl := dMark_any w4 ⟨aA, cA, mA, nA, rfl, rwA, rmA⟩ sm8_A
  rw [mark8] at hcl
  refine hcl.mono ?_
  rintro e w5 ⟨vB, rfl, ⟨aB, cB, mB, nB, rfl, rwB, rmB⟩, hb⟩
  clear hcl b0 b1
  replace rwB : RdL Elt.wr (fun _ => True) _ _ _ := rwB.weak fun _ _ => trivial
  replace rmB : RdL Elt.int (fun _ => True) _ _ _ := rmB.weak fun _ _ => trivial
  replace rwA := rwA.below hb
  replace rmA := rmA.below hb
  replace xA := xA.below hb xA.lt
  replace q := q.trans (hb.mono q.size)
  clear hb
  go_upto_region 3 with (first | (refine wpList_boxNew (vs := [.slice none 0 0, .slice none 0 0]) (by kernel_rfl) rfl rfl ?_; intro wa hba hBa) | (refine wpList_boxStore (us := [.slice aB dB8.writes.length cB, .slice mB dB8.marks.length nB]) (by kernel_rfl) rfl rfl rfl rfl rfl rfl hBa rfl ?_; intro w6 hgw xB) | fail)
  try go_simp
  have hbw := hba.grown hgw hba.size fun k hk => by injection hk with hk; omega
  replace rwA := rwA.below hbw
  replace rmA := rmA.below hbw
  replace xA := xA.below hbw xA.lt
  replace rwB := rwB.below hbw
  replace rmB := rmB.below hbw
  replace q := q.trans (hbw.mono q.size)
  clear hbw hgw hba hBa
  have b0 := xB.cell (i := 0) rfl
  have b1 := xB.cell (i := 1) rfl
  go_wp2_with (first | (have hx := hr1; refine wpList_byte1 byP rfl (fun _ => rfl) rfl rfl (by first | (simp; done) | (simp [Act.put]; done)) rfl (by decide) ?_; clear hx; intro u2 g2 k2 w2 hb2 hr2) | (refine wpList_byte1 byP rfl (fun _ => rfl) rfl rfl (by first | (simp; done) | (simp [Act.put]; done)) rfl (by decide) ?_; intro u1 g1 k1 w1 hb1 hr1) | fail)
  obtain rfl : k1 = 1 := hr1.s.len.1
  replace hr1 : RdS (fun _ => True) _ (.slice (some ⟨g1, 0, none⟩) 1 1) [97] := hr1.s.weak fun _ _ => trivial
  replace rwA := rwA.below hb1
  replace rmA := rmA.below hb1
  replace xA := xA.below hb1 xA.lt
  replace rwB := rwB.below hb1
  replace rmB := rmB.below hb1
  replace xB := xB.below hb1 xB.lt
  replace q := q.trans (hb1.mono q.size)
  clear hb1
  have hcl := dPut_any _ ⟨aB, cB, mB, nB, rfl, rwB, rmB⟩ sm8_B (x := wA8) ⟨_, _, none, 0, rfl, hr1, RdS.nil _ _, by unfold W64 wA8; decide⟩ (by decide) (by decide)
  rw [put8_2] at hcl
  refine hcl.mono ?_
  rintro e w7 ⟨vC, rfl, ⟨aC, cC, mC, nC, rfl, rwC, rmC⟩, hb⟩
  clear hcl b0 b1 hr1
  replace rwC : RdL Elt.wr (fun _ => True) _ _ _ := rwC.weak fun _ _ => trivial
  replace rmC : RdL Elt.int (fun _ => True) _ _ _ := rmC.weak fun _ _ => trivial
  replace rwA := rwA.below hb
  replace rmA := rmA.below hb
  replace xA := xA.below hb xA.lt
  replace rwB := rwB.below hb
  replace rmB := rmB.below hb
  replace xB := xB.below hb xB.lt
  replace q := q.trans (hb.mono q.size)
  clear hb
  go_upto_region 4 with (first | (refine wpList_boxNew (vs := [.slice none 0 0, .slice none 0 0]) (by kernel_rfl) rfl rfl ?_; intro wa hba hBa) | (refine wpList_boxStore (us := [.slice aC dC8.writes.length cC, .slice mC dC8.marks.length nC]) (by kernel_rfl) rfl rfl rfl rfl rfl rfl hBa rfl ?_; intro w8 hgw xC) | fail)
  try go_simp
  have hbw := hba.grown hgw hba.size fun k hk => by injection hk with hk; omega
  replace rwA := rwA.below hbw
  replace rmA := rmA.below hbw
  replace xA := xA.below hbw xA.lt
  replace rwB := rwB.below hbw
  replace rmB := rmB.below hbw
  replace xB := xB.below hbw xB.lt
  replace rwC := rwC.below hbw
  replace rmC := rmC.below hbw
  replace q := q.trans (hbw.mono q.size)
  clear hbw hgw hba hBa
  have b0 := xC.cell (i := 0) rfl
  have b1 := xC.cell (i := 1) rfl
  go_wp2_with (first | (have hx := hr1; refine wpList_byte1 byP rfl (fun _ => rfl) rfl rfl (by first | (simp; done) | (simp [Act.put]; done)) rfl (by decide) ?_; clear hx; intro u2 g2 k2 w2 hb2 hr2) | (refine wpList_byte1 byP rfl (fun _ => rfl) rfl rfl (by first | (simp; done) | (simp [Act.put]; done)) rfl (by decide) ?_; intro u1 g1 k1 w1 hb1 hr1) | fail)
  obtain rfl : k1 = 1 := hr1.s.len.1
  replace hr1 : RdS (fun _ => True) _ (.slice (some ⟨g1, 0, none⟩) 1 1) [97] := hr1.s.weak fun _ _ => trivial
  replace rwA := rwA.below hb1
  replace rmA := rmA.below hb1
  replace xA := xA.below hb1 xA.lt
  replace rwB := rwB.below hb1
  replace rmB := rmB.below hb1
  replace xB := xB.below hb1 xB.lt
  replace rwC := rwC.below hb1
  replace rmC := rmC.below hb1
  replace xC := xC.below hb1 xC.lt
  replace q := q.trans (hb1.mono q.size)
  clear hb1
  have hcl := dFind_any _ (t := 0) ⟨aC, cC, mC, nC, rfl, rwC, rmC⟩ sm8_C hr1
  rw [find8] at hcl
  refine hcl.mono ?_
  intro e w9 hE
  obtain ⟨vW, rfl, ⟨kW, lW, mW, nW, rfl, hkW, hvW, htW⟩, hb⟩ := fnd_some hE
  clear hcl hkW hvW htW b0 b1 hr1
  replace rwA := rwA.below hb
  replace rmA := rmA.below hb
  replace xA := xA.below hb xA.lt
  replace rwB := rwB.below hb
  replace rmB := rmB.below hb
  replace xB := xB.below hb xB.lt
  replace rwC := rwC.below hb
  replace rmC := rmC.below hb
  replace xC := xC.below hb xC.lt
  replace q := q.trans (hb.mono q.size)
  clear hb
  go_upto_region 5 with (first | (refine wpList_boxNew (vs := [.int .i64 0, .slice none 0 0, .bool false, .slice none 0 0]) (by kernel_rfl) rfl rfl ?_; intro wa hba hBa) | (refine wpList_boxStore (us := [.int .i64 0, .slice kW 1 lW, .bool true, .slice mW 0 nW]) (by kernel_rfl) rfl rfl rfl rfl rfl rfl hBa rfl ?_; intro w10 hgw xW) | fail)
  try go_simp
  have hbw := hba.grown hgw hba.size fun k hk => by injection hk with hk; omega
  replace rwA := rwA.below hbw
  replace rmA := rmA.below hbw
  replace xA := xA.below hbw xA.lt
  replace rwB := rwB.below hbw
  replace rmB := rmB.below hbw
  replace xB := xB.below hbw xB.lt
  replace rwC := rwC.below hbw
  replace rmC := rmC.below hbw
  replace xC := xC.below hbw xC.lt
  replace q := q.trans (hbw.mono q.size)
  clear hbw hgw hba hBa
  have b0 := xC.cell (i := 0) rfl
  have b1 := xC.cell (i := 1) rfl
  have hcl := dLast_any _ ⟨aC, cC, mC, nC, rfl, rwC, rmC⟩
  rw [last8] at hcl
  go_wp2_with fail
  refine hcl.mono ?_
  rintro e w11 ⟨aL, cL, rfl, hL, hb⟩
  have rL : RdL Elt.wr (fun _ => True) _ (.slice aL 2 cL) [wA8, wB8] := hL.rdL.weak fun _ _ => trivial
  clear hcl hL b0 b1
  replace rwA := rwA.below hb
  replace rmA := rmA.below hb
  replace xA := xA.below hb xA.lt
  replace rwB := rwB.below hb
  replace rmB := rmB.below hb
  replace xB := xB.below hb xB.lt
  replace rwC := rwC.below hb
  replace rmC := rmC.below hb
  replace xC := xC.below hb xC.lt
  replace xW := xW.below hb xW.lt
  replace q := q.trans (hb.mono q.size)
  clear hb
  go_upto_region 6 with (fail)
  have b0 := xC.cell (i := 0) rfl
  have b1 := xC.cell (i := 1) rfl
  go_wp2_with (first | (have hx := hr1; refine wpList_byte1 byP rfl (fun _ => rfl) rfl rfl (by first | (simp; done) | (simp [Act.put]; done)) rfl (by decide) ?_; clear hx; intro u2 g2 k2 w2 hb2 hr2) | (refine wpList_byte1 byP rfl (fun _ => rfl) rfl rfl (by first | (simp; done) | (simp [Act.put]; done)) rfl (by decide) ?_; intro u1 g1 k1 w1 hb1 hr1) | (refine wpList_pairs2 rfl rfl rfl rfl rfl ?_; intro w12 hb12 hrow) | fail)
  obtain rfl : k1 = 1 := hr1.s.len.1
  replace hr1 : RdS (fun _ => True) _ (.slice (some ⟨g1, 0, none⟩) 1 1) [97] := hr1.s.weak fun _ _ => trivial
  obtain rfl : k2 = 1 := hr2.s.len.1
  replace hr2 : RdS (fun _ => True) _ (.slice (some ⟨g2, 0, none⟩) 1 1) [99] := hr2.s.weak fun _ _ => trivial
  replace rwA := rwA.below hb1
  replace rmA := rmA.below hb1
  replace xA := xA.below hb1 xA.lt
  replace rwB := rwB.below hb1
  replace rmB := rmB.below hb1
  replace xB := xB.below hb1 xB.lt
  replace rwC := rwC.below hb1
  replace rmC := rmC.below hb1
  replace xC := xC.below hb1 xC.lt
  replace xW := xW.below hb1 xW.lt
  replace rL := rL.below hb1
  replace q := q.trans (hb1.mono q.size)
  replace hr1 := hr1.below hb2
  replace rwA := rwA.below hb2
  replace rmA := rmA.below hb2
  replace xA := xA.below hb2 xA.lt
  replace rwB := rwB.below hb2
  replace rmB := rmB.below hb2
  replace xB := xB.below hb2 xB.lt
  replace rwC := rwC.below hb2
  replace rmC := rmC.below hb2
  replace xC := xC.below hb2 xC.lt
  replace xW := xW.below hb2 xW.lt
  replace rL := rL.below hb2
  replace q := q.trans (hb2.mono q.size)
  have hl := rdPairs2 (p := ⟨[97], []⟩) (q := ⟨[99], []⟩) hrow hb12 hr1 hr2
  replace rwA := rwA.below hb12
  replace rmA := rmA.below hb12
  replace xA := xA.below hb12 xA.lt
  replace rwB := rwB.below hb12
  replace rmB := rmB.below hb12
  replace xB := xB.below hb12 xB.lt
  replace rwC := rwC.below hb12
  replace rmC := rmC.below hb12
  replace xC := xC.below hb12 xC.lt
  replace xW := xW.below hb12 xW.lt
  replace rL := rL.below hb12
  replace q := q.trans (hb12.mono q.size)
  clear hb1 hb2 hb12 hr1 hr2 hrow
  have hcl := dOver_any _ (x0 := ⟨0, [], [], true⟩) (S2 := fun _ => True) ⟨aC, cC, mC, nC, rfl, rwC, rmC⟩ ⟨none, 0, none, 0, rfl, RdS.nil _ _, RdS.nil _ _, by unfold W64; decide⟩ hl (by unfold smQ; simp) (by decide)
  rw [over8] at hcl
  refine hcl.mono ?_
  rintro e w13 ⟨aO, cO, rfl, hO, hb⟩
  have rO : RdL Elt.pq (fun _ => True) _ (.slice aO 2 cO) [⟨[98], [118]⟩, ⟨[99], []⟩] := hO.rdL.weak fun _ _ => trivial
  clear hcl hO hl b0 b1
  replace rwA := rwA.below hb
  replace rmA := rmA.below hb
  replace xA := xA.below hb xA.lt
  replace rwB := rwB.below hb
  replace rmB := rmB.below hb
  replace xB := xB.below hb xB.lt
  replace rwC := rwC.below hb
  replace rmC := rmC.below hb
  replace xC := xC.below hb xC.lt
  replace xW := xW.below hb xW.lt
  replace rL := rL.below hb
  replace q := q.trans (hb.mono q.size)
  clear hb
  go_upto_region 7 with (fail)
  have b0 := xC.cell (i := 0) rfl
  have b1 := xC.cell (i := 1) rfl
  go_wp2_with fail
  have hcl := dBack_any _ (i := 0) ⟨aC, cC, mC, nC, rfl, rwC, rmC⟩ sm8_C
  rw [back8_0] at hcl
  refine hcl.mono ?_
  rintro e w14 ⟨vD, rfl, ⟨aD, cD, mD, nD, rfl, rwD, rmD⟩, hb⟩
  clear hcl b0 b1
  replace rwD : RdL Elt.wr (fun _ => True) _ _ _ := rwD.weak fun _ _ => trivial
  replace rmD : RdL Elt.int (fun _ => True) _ _ _ := rmD.weak fun _ _ => trivial
  replace rwA := rwA.below hb
  replace rmA := rmA.below hb
  replace xA := xA.below hb xA.lt
  replace rwB := rwB.below hb
  replace rmB := rmB.below hb
  replace xB := xB.below hb xB.lt
  replace rwC := rwC.below hb
  replace rmC := rmC.below hb
  replace xC := xC.below hb xC.lt
  replace xW := xW.below hb xW.lt
  replace rL := rL.below hb
  replace rO := rO.below hb
  replace q := q.trans (hb.mono q.size)
  clear hb
  go_upto_region 8 with (first | (refine wpList_boxNew (vs := [.slice none 0 0, .slice none 0 0]) (by kernel_rfl) rfl rfl ?_; intro wa hba hBa) | (refine wpList_boxStore (us := [.slice aD dB8.writes.length cD, .slice mD dB8.marks.length nD]) (by kernel_rfl) rfl rfl rfl rfl rfl rfl hBa rfl ?_; intro w15 hgw xD) | fail)
  try go_simp
  have hbw := hba.grown hgw hba.size fun k hk => by injection hk with hk; omega
  replace rwA := rwA.below hbw
  replace rmA := rmA.below hbw
  replace xA := xA.below hbw xA.lt
  replace rwB := rwB.below hbw
  replace rmB := rmB.below hbw
  replace xB := xB.below hbw xB.lt
  replace rwC := rwC.below hbw
  replace rmC := rmC.below hbw
  replace xC := xC.below hbw xC.lt
  replace xW := xW.below hbw xW.lt
  replace rL := rL.below hbw
  replace rO := rO.below hbw
  replace rwD := rwD.below hbw
  replace rmD := rmD.below hbw
  replace q := q.trans (hbw.mono q.size)
  clear hbw hgw hba hBa
  have b0 := xC.cell (i := 0) rfl
  have b1 := xC.cell (i := 1) rfl
  go_wp2_with fail
  have hcl := dBack_any _ (i := 1) ⟨aC, cC, mC, nC, rfl, rwC, rmC⟩ sm8_C
  rw [back8_1] at hcl
  refine hcl.mono ?_
  rintro e w16 ⟨vE, rfl, ⟨aE, cE, mE, nE, rfl, rwE, rmE⟩, hb⟩
  clear hcl b0 b1
  replace rwE : RdL Elt.wr (fun _ => True) _ _ _ := rwE.weak fun _ _ => trivial
  replace rmE : RdL Elt.int (fun _ => True) _ _ _ := rmE.weak fun _ _ => trivial
  replace rwA := rwA.below hb
  replace rmA := rmA.below hb
  replace xA := xA.below hb xA.lt
  replace rwB := rwB.below hb
  replace rmB := rmB.below hb
  replace xB := xB.below hb xB.lt
  replace rwC := rwC.below hb
  replace rmC := rmC.below hb
  replace xC := xC.below hb xC.lt
  replace xW := xW.below hb xW.lt
  replace rL := rL.below hb
  replace rO := rO.below hb
  replace rwD := rwD.below hb
  replace rmD := rmD.below hb
  replace xD := xD.below hb xD.lt
  replace q := q.trans (hb.mono q.size)
  clear hb
  go_upto_region 9 with (first | (refine wpList_boxNew (vs := [.slice none 0 0, .slice none 0 0]) (by kernel_rfl) rfl rfl ?_; intro wa hba hBa) | (refine wpList_boxStore (us := [.slice aE dC8.writes.length cE, .slice mE dC8.marks.length nE]) (by kernel_rfl) rfl rfl rfl rfl rfl rfl hBa rfl ?_; intro w17 hgw xE) | fail)
  try go_simp
  have hbw := hba.grown hgw hba.size fun k hk => by injection hk with hk; omega
  replace rwA := rwA.below hbw
  replace rmA := rmA.below hbw
  replace xA := xA.below hbw xA.lt
  replace rwB := rwB.below hbw
  replace rmB := rmB.below hbw
  replace xB := xB.below hbw xB.lt
  replace rwC := rwC.below hbw
  replace rmC := rmC.below hbw
  replace xC := xC.below hbw xC.lt
  replace xW := xW.below hbw xW.lt
  replace rL := rL.below hbw
  replace rO := rO.below hbw
  replace rwD := rwD.below hbw
  replace rmD := rmD.below hbw
  replace xD := xD.below hbw xD.lt
  replace rwE := rwE.below hbw
  replace rmE := rmE.below hbw
  replace q := q.trans (hbw.mono q.size)
  clear hbw hgw hba hBa
  have b0 := xD.cell (i := 0) rfl
  have b1 := xD.cell (i := 1) rfl
  go_wp2_with (first | (have hx := hr1; refine wpList_byte1 byP rfl (fun _ => rfl) rfl rfl (by first | (simp; done) | (simp [Act.put]; done)) rfl (by decide) ?_; clear hx; intro u2 g2 k2 w2 hb2 hr2) | (refine wpList_byte1 byP rfl (fun _ => rfl) rfl rfl (by first | (simp; done) | (simp [Act.put]; done)) rfl (by decide) ?_; intro u1 g1 k1 w1 hb1 hr1) | fail)
  obtain rfl : k1 = 1 := hr1.s.len.1
  replace hr1 : RdS (fun _ => True) _ (.slice (some ⟨g1, 0, none⟩) 1 1) [97] := hr1.s.weak fun _ _ => trivial
  replace rwA := rwA.below hb1
  replace rmA := rmA.below hb1
  replace xA := xA.below hb1 xA.lt
  replace rwB := rwB.below hb1
  replace rmB := rmB.below hb1
  replace xB := xB.below hb1 xB.lt
  replace rwC := rwC.below hb1
  replace rmC := rmC.below hb1
  replace xC := xC.below hb1 xC.lt
  replace xW := xW.below hb1 xW.lt
  replace rL := rL.below hb1
  replace rO := rO.below hb1
  replace rwD := rwD.below hb1
  replace rmD := rmD.below hb1
  replace xD := xD.below hb1 xD.lt
  replace rwE := rwE.below hb1
  replace rmE := rmE.below hb1
  replace xE := xE.below hb1 xE.lt
  replace q := q.trans (hb1.mono q.size)
  clear hb1
  have hcl := dFind_any _ (t := 0) ⟨aD, cD, mD, nD, rfl, rwD, rmD⟩ sm8_B hr1
  rw [find8_n] at hcl
  refine hcl.mono ?_
  intro e w18 hE
  obtain ⟨vZ, rfl, ⟨kZ, lZ, mZ, nZ, rfl, hkZ, hvZ, htZ⟩, hb⟩ := fnd_none hE
  clear hcl hkZ hvZ htZ b0 b1 hr1
  replace rwA := rwA.below hb
  replace rmA := rmA.below hb
  replace xA := xA.below hb xA.lt
  replace rwB := rwB.below hb
  replace rmB := rmB.below hb
  replace xB := xB.below hb xB.lt
  replace rwC := rwC.below hb
  replace rmC := rmC.below hb
  replace xC := xC.below hb xC.lt
  replace xW := xW.below hb xW.lt
  replace rL := rL.below hb
  replace rO := rO.below hb
  replace rwD := rwD.below hb
  replace rmD := rmD.below hb
  replace xD := xD.below hb xD.lt
  replace rwE := rwE.below hb
  replace rmE := rmE.below hb
  replace xE := xE.below hb xE.lt
  replace q := q.trans (hb.mono q.size)
  clear hb
  go_upto_region 10 with (first | (refine wpList_boxNew (vs := [.int .i64 0, .slice none 0 0, .bool false, .slice none 0 0]) (by kernel_rfl) rfl rfl ?_; intro wa hba hBa) | (refine wpList_boxStore (us := [.int .i64 0, .slice kZ 0 lZ, .bool false, .slice mZ 0 nZ]) (by kernel_rfl) rfl rfl rfl rfl rfl rfl hBa rfl ?_; intro w19 hgw xZ) | fail)
  try go_simp
  have hbw := hba.grown hgw hba.size fun k hk => by injection hk with hk; omega
  replace rwA := rwA.below hbw
  replace rmA := rmA.below hbw
  replace xA := xA.below hbw xA.lt
  replace rwB := rwB.below hbw
  replace rmB := rmB.below hbw
  replace xB := xB.below hbw xB.lt
  replace rwC := rwC.below hbw
  replace rmC := rmC.below hbw
  replace xC := xC.below hbw xC.lt
  replace xW := xW.below hbw xW.lt
  replace rL := rL.below hbw
  replace rO := rO.below hbw
  replace rwD := rwD.below hbw
  replace rmD := rmD.below hbw
  replace xD := xD.below hbw xD.lt
  replace rwE := rwE.below hbw
  replace rmE := rmE.below hbw
  replace xE := xE.below hbw xE.lt
  replace q := q.trans (hbw.mono q.size)
  clear hbw hgw hba hBa
  have b0 := xC.cell (i := 0) rfl
  have b1 := xC.cell (i := 1) rfl
  go_wp2_with fail
  have hcl := dPut_any _ (S2 := fun _ => True) (x := ⟨4, [], false, []⟩) ⟨aC, cC, mC, nC, rfl, rwC, rmC⟩ sm8_C ⟨none, 0, none, 0, rfl, RdS.nil _ _, RdS.nil _ _, by unfold W64; decide⟩ (by decide) (by decide)
  rw [put8_3] at hcl
  refine hcl.mono ?_
  rintro e w20 ⟨vF, rfl, ⟨aF, cF, mF, nF, rfl, rwF, rmF⟩, hb⟩
  clear hcl b0 b1
  replace rwF : RdL Elt.wr (fun _ => True) _ _ _ := rwF.weak fun _ _ => trivial
  replace rmF : RdL Elt.int (fun _ => True) _ _ _ := rmF.weak fun _ _ => trivial
  replace rwA := rwA.below hb
  replace rmA := rmA.below hb
  replace xA := xA.below hb xA.lt
  replace rwB := rwB.below hb
  replace rmB := rmB.below hb
  replace xB := xB.below hb xB.lt
  replace rwC := rwC.below hb
  replace rmC := rmC.below hb
  replace xC := xC.below hb xC.lt
  replace xW := xW.below hb xW.lt
  replace rL := rL.below hb
  replace rO := rO.below hb
  replace rwD := rwD.below hb
  replace rmD := rmD.below hb
  replace xD := xD.below hb xD.lt
  replace rwE := rwE.below hb
  replace rmE := rmE.below hb
  replace xE := xE.below hb xE.lt
  replace xZ := xZ.below hb xZ.lt
  replace q := q.trans (hb.mono q.size)
  clear hb
  go_upto_region 11 with (first | (refine wpList_boxNew (vs := [.slice none 0 0, .slice none 0 0]) (by kernel_rfl) rfl rfl ?_; intro wa hba hBa) | (refine wpList_boxStore (us := [.slice aF dC8.writes.length cF, .slice mF dC8.marks.length nF]) (by kernel_rfl) rfl rfl rfl rfl rfl rfl hBa rfl ?_; intro w21 hgw xF) | fail)
  try go_simp
  have hbw := hba.grown hgw hba.size fun k hk => by injection hk with hk; omega
  replace rwA := rwA.below hbw
  replace rmA := rmA.below hbw
  replace xA := xA.below hbw xA.lt
  replace rwB := rwB.below hbw
  replace rmB := rmB.below hbw
  replace xB := xB.below hbw xB.lt
  replace rwC := rwC.below hbw
  replace rmC := rmC.below hbw
  replace xC := xC.below hbw xC.lt
  replace xW := xW.below hbw xW.lt
  replace rL := rL.below hbw
  replace rO := rO.below hbw
  replace rwD := rwD.below hbw
  replace rmD := rmD.below hbw
  replace xD := xD.below hbw xD.lt
  replace rwE := rwE.below hbw
  replace rmE := rmE.below hbw
  replace xE := xE.below hbw xE.lt
  replace xZ := xZ.below hbw xZ.lt
  replace rwF := rwF.below hbw
  replace rmF := rmF.below hbw
  replace q := q.trans (hbw.mono q.size)
  clear hbw hgw hba hBa
  clear rwA rmA xA rwB rmB xB rwE rmE xE rwF rmF xF xZ
  obtain ⟨bL, oL, KA, KC, VA, VC, rfl, _, l0, l1, l2, l3, hk0, hv0, _⟩ := rL.wr 0 (by decide)
  obtain ⟨bO, oO, PA, PC, PB, PD, rfl, _, p0, p1, hp0, _⟩ := rO.pq 0 (by decide)
  obtain ⟨bO2, oO2, RA, RC, RB, RD, e2, _, r0, r1, hp1, _⟩ := rO.pq 1 (by decide)
  injection e2 with e2; injection e2 with eb eo _; subst eb; subst eo
  replace l1 : _ = some (Value.slice KA 1 KC) := l1
  replace hk0 : RdS (fun _ => True) _ (.slice KA 1 KC) [97] := hk0
  replace p0 : _ = some (Value.slice PA 1 PC) := p0
  replace hp0 : RdS (fun _ => True) _ (.slice PA 1 PC) [98] := hp0
  replace r0 : _ = some (Value.slice RA 1 RC) := r0
  replace hp1 : RdS (fun _ => True) _ (.slice RA 1 RC) [99] := hp1
  replace xD : BoxN _ _ _ [.slice aD 1 cD, .slice mD 1 nD] := xD
  clear rL rO l0 l2 l3 hv0 p1 r1 rwD rmD
  rw [Nat.zero_mul, Nat.add_zero] at l1 p0
  rw [Nat.one_mul] at r0
  have hcl := dCheck_any _ ⟨aC, cC, mC, nC, rfl, rwC, rmC⟩
  rw [decide_eq_true ok8] at hcl
  clear rwC rmC
  have b0 := xC.cell (i := 0) rfl
  have b1 := xC.cell (i := 1) rfl
  have f0 := xW.cell (i := 0) rfl
  have f1 := xW.cell (i := 1) rfl
  have f2 := xW.cell (i := 2) rfl
  have f3 := xW.cell (i := 3) rfl
  have d0 := xD.cell (i := 0) rfl
  have d1 := xD.cell (i := 1) rfl
  have s1 : (strOf [97]).toList = [97] := strOf_listD _
  have s2 : (strOf [98]).toList = [98] := strOf_listD _
  have s3 : (strOf [99]).toList = [99] := strOf_listD _
  go_upto_region 12 with (fail)
  have cv1 := run_conv byP hk0.rd
  have cv2 := run_conv byP hp0.rd
  have cv3 := run_conv byP hp1.rd
  go_wp2_with (first | rw [cv1] | rw [cv2] | rw [cv3] | fail)
  refine hcl.mono ?_
  rintro e w22 ⟨rfl, hb⟩
  go_wp2_with fail
  go_ret
  exact ⟨rfl, q.trans (hb.mono q.size)⟩
end Go.Proofs.Ytjbdkhddnblieaa
namespace Go.Proofs.Ytjbdkhddnblieaa
open Go.RowKit Go.Shelf
set_option maxRecDepth 100000 in
set_option maxHeartbeats 4000000 in
theorem rCopy_any (w : World) {S : Nat → Prop} {v : Value} {d : Dl} (h : RdDl S w v d) (hs : smD d) :
    Calls Try.prog 32 #[v] w fun e w' => ∃ v', e = .returned v' ∧ OwnD w.heap.size w' v' d ∧ Below w.heap.size w w' := by
  replace h : RdDl (· < w.heap.size) w v d := by
    obtain ⟨a, c, a2, c2, e, h1, h2⟩ := h
    exact ⟨a, c, a2, c2, e, h1.fit.weak fun _ hk => hk.2, h2.fit.weak fun _ hk => hk.2⟩
  obtain ⟨a, c, a2, c2, rfl, hw, hm⟩ := h
  obtain ⟨_, hc1, hm1⟩ := hw.len
  obtain ⟨hs1, hs2, hs3⟩ := hs
  obtain ⟨W0, hW, q, bn, bz, hsz⟩ := boxes2 w 25 25 [.slice a d.writes.length c, .slice a2 d.marks.length c2] [.slice none 0 0, .slice none 0 0]
  have eA : ∀ args w, (callFunc 34 args).run Try.prog w = .ok (.enter 34 args) w := enters_of Try.func34 (by kernel_rfl) rfl
  go_enter Try.func32, Try.ntmps32
  go_upto_region 1 with (fail)
  rw [show (w.alloc (.cells #[.slice a d.writes.length c, .slice a2 d.marks.length c2] 25)).alloc (.cells #[.slice none 0 0, .slice none 0 0] 25) = W0 from hW.symm]
  clear hW
  replace hsz := Lib.hid hsz
  go_upto_region 3 with (first
    | (refine wpList_buildZero (E := Elt.int) inP rfl rfl ?_; intro wz hbz hOz; have b1 := (bn.below hbz bn.lt).cell (i := 1) rfl)
    | (refine wpList_append_zeroL (E := Elt.int) inP rfl rfl rfl (hOz.to (Nat.le_refl _) (Nat.zero_le _)) rfl ((hm.below (q.trans (hbz.mono q.size))).fit.weak fun k hk => hk.2) (fun k hk => ⟨Nat.zero_le _, hk⟩) hbz.size ?_ (by omega); intro m1 ml mc w1 hM hbm; obtain rfl := hM.len; clear b1)
    | (refine wpList_boxNew (vs := [.slice none 0 0, .slice none 0 0]) (by kernel_rfl) rfl rfl ?_; intro w2 hb2 hB2)
    | (refine wpList_boxStore (us := [.slice none 0 0, .slice m1 d.marks.length mc]) (by kernel_rfl) rfl rfl rfl rfl rfl rfl hB2 rfl ?_; intro w3 hg3 hB3)
    | fail)
  have hsz1 : w.heap.size + 1 < W0.heap.size := by have := hsz.out; omega
  replace hM := hM.num (lo' := W0.heap.size)
  have hb1 : Below W0.heap.size W0 w1 := hbz.trans (hbm.mono hbz.size)
  have q1 := q.trans (hb1.mono q.size)
  have bn1 := bn.below hb1 bn.lt
  have bz1 := bz.below hb1 bz.lt
  have hn1 := bn1.lt
  have qb3 : Below w1.heap.size w1 w3 := hb2.grown hg3 hb2.size fun k hk => by injection hk with hk; omega
  have hs3x := hB3.lt
  clear hb2 hB2 hg3 hOz hbm hbz bn bz
  go_loopw [4] (fun iv wr => ∃ (n : Nat) (ad : Option Addr) (ko : Nat), iv = .int .i64 n ∧ n ≤ d.writes.length ∧ OwnL Elt.wr 28 (w1.heap.size + 1) (w1.heap.size + 1) wr (.slice ad (d.writes.take n).length ko) (d.writes.take n) ∧ BoxN wr w1.heap.size 25 [.slice ad (d.writes.take n).length ko, .slice m1 d.marks.length mc] ∧ Below w1.heap.size w1 wr)
    (fun i _ => d.writes.length - (intOf i).toNat)
  case atStart => exact ⟨0, none, 0, rfl, Nat.zero_le _, OwnL.nil _ _ _ _ _, hB3, qb3⟩
  case round =>
    clear hB3 qb3
    obtain ⟨n, ad, ko, rfl, hkl, hO, hB, qr⟩ := hrel
    have q := q1.trans (qr.mono q1.size)
    have bnr := bn1.below qr bn1.lt
    have b0 := bnr.cell (i := 0) rfl
    rcases Nat.lt_or_ge n d.writes.length with hlt | hge
    · obtain ⟨b, off, KA, KC, VA, VC, rfl, hbw, c0, c1, c2, c3, hk1, hk2, hw64⟩ := (hw.below q).wr n hlt
      obtain ⟨hx1, hx2⟩ := hs3 _ (List.getElem_mem hlt)
      have hsn := Lib.hid (show d.writes.take (n + 1) = d.writes.take n ++ [d.writes[n]] from List.take_succ_eq_append_getElem hlt)
      obtain ⟨x, ex⟩ : ∃ x, x = d.writes[n] := ⟨_, rfl⟩
      obtain ⟨xs, exs⟩ : ∃ xs, xs = d.writes.take n := ⟨_, rfl⟩
      have hxl : xs.length ≤ 1000000 := by rw [exs, List.length_take]; omega
      rw [← ex] at c0 c1 c2 c3 hk1 hk2 hw64 hx1 hx2 hsn
      rw [← exs] at hO hB hsn
      clear ex exs
      have hx : RdWr (· < w.heap.size) wr (.agg #[.int .i64 x.table, .slice KA x.key.length KC, .bool x.gone, .slice VA x.val.length VC]) x := ⟨KA, KC, VA, VC, rfl, hk1, hk2, hw64⟩
      go_upto_region 5 with (fail)
      go_simp
      have hBlt := hB.lt
      have hrr : ∀ k, Value.ownBlock (.slice ad xs.length ko) = some k → w1.heap.size + 1 ≤ k ∧ k < wr.heap.size := fun k hk => hO.block_lt k hk
      have hrW : ∀ k, Value.ownBlock (.slice ad xs.length ko) = some k → k < wr.heap.size := fun k hk => (hrr k hk).2
      replace hO := hO.but (b := w1.heap.size) (fun k hk _ => by omega)
      have hlo : w1.heap.size + 1 ≤ wr.heap.size := by omega
      have hnr : some w.heap.size ≠ Value.ownBlock (.slice ad xs.length ko) := fun e => by have := hrr _ e.symm; omega
      have hnb : w.heap.size ≠ w1.heap.size := by omega
      have hbr : Value.ownBlock (.slice ad xs.length ko) ≠ some w1.heap.size := fun e => by have := hrr _ e; omega
      have hb1 : w1.heap.size < w1.heap.size + 1 := by omega
      have hbW : b < wr.heap.size := by have := q.size; omega
      clear hk1 hk2
      refine wp_region_lnl (K := fun A B => Twb A B (Value.ownBlock (.slice ad xs.length ko)) (w1.heap.size)) (by kernel_rfl) (by kernel_rfl) [7, 9, 11] (by kernel_rfl) [lEq (.pointer (some ⟨w1.heap.size, 0 + 0, none⟩)), lEq (.slice ad xs.length ko), lEq (.pointer (some ⟨w.heap.size, 0 + 0, none⟩)), lEq (.slice (some ⟨b, off, none⟩) d.writes.length c), lEq (.int .i64 (n : Int)), lEq (.pointer (some ⟨b, off + n * 4, none⟩)), lEq (.agg #[.int .i64 x.table, .slice KA x.key.length KC, .bool x.gone, .slice VA x.val.length VC]), lAny, pRow Elt.wr 28 (wr) (Value.ownBlock (.slice ad xs.length ko)) (w1.heap.size) x hrW hB.lt, lAny, lEq (.pointer (some ⟨w1.heap.size, 0 + 0, none⟩)), lAny] (PshJ Elt.wr 28 ((w1.heap.size + 1)) ((w1.heap.size + 1)) (Value.ownBlock (.slice ad xs.length ko)) (w1.heap.size) 25 [.slice ad xs.length ko, .slice m1 d.marks.length mc] 0 (wr) (xs) x) PshJ.below (show Below (wr).heap.size (wr) (wr) from Below.refl _ _)
        ⟨?o0, ?o1, ?o2, ?o3, ?o4, ?o5, ?o6, ?o7, ?o8, ?o9, ?o10, ?o11, trivial⟩ ?fin
      case o0 =>
        refine LnOp.side rfl (by kernel_rfl) (fun A va w' k hF hT hk hJ hb hu hp hd => ?_)
        have e1 : A.eval (.tmp 3) = .pointer (some ⟨w1.heap.size, 0, none⟩) := hF 3 rfl
        exact wp_fieldN dlS rfl (e1) (by omega) ⟨_, rfl, rfl, Below.refl _ _⟩
      case o1 =>
        refine LnOp.side rfl (by kernel_rfl) (fun A va w' k hF hT hk hJ hb hu hp hd => ?_)
        have e1 : A.eval (.tmp 17) = .pointer (some ⟨w1.heap.size, 0 + 0, none⟩) := (hT 17 0 (by simp) rfl).trans (hd ⟨0, .data⟩ (by simp) rfl rfl)
        have hk1 : k ≤ 1 := hb 1 9 rfl (by kernel_rfl)
        have hJ0 := PshJ.early hJ (by simp only [List.length_map, List.length_take]; omega)
        exact wp_ld_slice (e := 28) rfl e1 (by kernel_rfl) ((hB.below hJ0 hB.lt).cell (i := 0) rfl) ⟨_, rfl, rfl, Below.refl _ _⟩
      case o2 =>
        refine LnOp.side rfl (by kernel_rfl) (fun A va w' k hF hT hk hJ hb hu hp hd => ?_)
        have e1 : A.eval (.tmp 1) = .pointer (some ⟨w.heap.size, 0, none⟩) := hF 1 rfl
        exact wp_fieldN dlS rfl (e1) (by omega) ⟨_, rfl, rfl, Below.refl _ _⟩
      case o3 =>
        refine LnOp.side rfl (by kernel_rfl) (fun A va w' k hF hT hk hJ hb hu hp hd => ?_)
        have e1 : A.eval (.tmp 19) = .pointer (some ⟨w.heap.size, 0 + 0, none⟩) := (hT 19 2 (by simp) rfl).trans (hd ⟨2, .data⟩ (by simp) rfl rfl)
        exact wp_ld_slice (e := 28) rfl (e1) (by kernel_rfl) (((PshJ.two hJ).boxN bnr hnr hnb).cell (i := 0) rfl) ⟨_, rfl, rfl, Below.refl _ _⟩
      case o4 =>
        refine LnOp.side rfl (by kernel_rfl) (fun A va w' k hF hT hk hJ hb hu hp hd => ?_)
        have e1 : A.eval (.tmp 4) = .int .i64 (n : Int) := hF 4 rfl
        exact BigFrame.wp_move _ rfl ⟨_, rfl, e1, Below.refl _ _⟩
      case o5 =>
        refine LnOp.side rfl (by kernel_rfl) (fun A va w' k hF hT hk hJ hb hu hp hd => ?_)
        have e1 : A.eval (.tmp 20) = .slice (some ⟨b, off, none⟩) d.writes.length c := (hT 20 3 (by simp) rfl).trans (hd ⟨3, .data⟩ (by simp) rfl rfl)
        have e2 : A.eval (.tmp 21) = .int .i64 (n : Int) := (hT 21 4 (by simp) rfl).trans (hd ⟨4, .data⟩ (by simp) rfl rfl)
        exact wp_ixN (e := 28) rfl (by kernel_rfl) (by kernel_rfl) (e1) (e2) rfl (by omega) ⟨_, rfl, rfl, Below.refl _ _⟩
      case o6 =>
        refine LnOp.side rfl (by kernel_rfl) (fun A va w' k hF hT hk hJ hb hu hp hd => ?_)
        have e1 : A.eval (.tmp 22) = .pointer (some ⟨b, off + n * 4, none⟩) := (hT 22 5 (by simp) rfl).trans (hd ⟨5, .data⟩ (by simp) rfl rfl)
        obtain rfl : k = 0 := by have := hb 0 7 rfl (by kernel_rfl); omega
        have hJ0 : Below wr.heap.size wr w' := hJ
        exact wp_load4 wrS rfl e1 ((hJ0.cell (p := ⟨b, off + n * 4, none⟩) hbW).trans c0) ((hJ0.cell (p := ⟨b, off + n * 4 + 1, none⟩) hbW).trans c1) ((hJ0.cell (p := ⟨b, off + n * 4 + 2, none⟩) hbW).trans c2) ((hJ0.cell (p := ⟨b, off + n * 4 + 3, none⟩) hbW).trans c3) ⟨_, rfl, rfl, Below.refl _ _⟩
      case o7 =>
        refine LnOp.line 0 rfl rfl (fun A va w' hF hT hJ hu hd => ?_)
        have e1 : A.eval (.tmp 23) = .agg #[.int .i64 x.table, .slice KA x.key.length KC, .bool x.gone, .slice VA x.val.length VC] := (hT 23 6 (by simp) rfl).trans (hd ⟨6, .data⟩ (by simp) rfl rfl)
        have hJ0 : Below (wr).heap.size (wr) w' := hJ
        refine wp_callFn rfl eA (by simp only [List.map_toArray, List.map_cons, List.map_nil, e1]) ((rWrite_any w' (hx.below hJ0) hx1 hx2).mono ?_)
        rintro e w2 ⟨v2, rfl, ⟨ka, kc, va2, vc, rfl, hk2, hv2, ht2⟩, hb2⟩
        have hR : Elt.wr.R (fun k => wr.heap.size ≤ k ∧ k < w2.heap.size) w2 x (wrC x (.slice ka x.key.length kc) (.slice va2 x.val.length vc)) := ⟨_, _, rfl, hk2.weak fun k hk => ⟨Nat.le_trans hJ0.size hk.1, hk.2⟩, hv2.weak fun k hk => ⟨Nat.le_trans hJ0.size hk.1, hk.2⟩, ht2⟩
        exact ⟨_, rfl, _, rfl, ⟨hJ0.trans (hb2.mono hJ0.size), _, rfl, hR⟩, (Twb.refl (r := Value.ownBlock (.slice ad xs.length ko)) (b := w1.heap.size)).below hb2⟩
      case o8 =>
        refine LnOp.side rfl (by kernel_rfl) (fun A va w' k hF hT hk hJ hb hu hp hd => ?_)
        have x1 : A.eval (.tmp 24) = va 7 := hT 24 7 (by simp) rfl
        obtain rfl : k = 1 := by
          have h1 := hp ⟨7, .data⟩ (by simp) rfl 0 rfl
          have h2 := hb 1 9 rfl (by kernel_rfl)
          omega
        obtain ⟨hJ0, us, eus, hR⟩ := hJ
        have hb1 : Below w'.heap.size w' (w'.alloc (.cells us.toArray 28)) := (Below.refl _ _).alloc (Nat.le_refl _) _
        exact wp_buildOne wrP rfl x1 eus (Elt.len _ hR) (by decide) (by decide) ⟨_, rfl, ⟨_, us, rfl, hJ0.size, by simp only [World.alloc, Array.getElem?_push_size], Elt.weak _ (Elt.below hR hb1) fun k hk => ⟨hk.1, Nat.lt_of_lt_of_le hk.2 hb1.size⟩⟩, hb1⟩
      case o9 =>
        refine LnOp.line 1 rfl rfl (fun A va w' hF hT hJ hu hd => ?_)
        have e1 : A.eval (.tmp 18) = .slice ad xs.length ko := (hT 18 1 (by simp) rfl).trans (hd ⟨1, .data⟩ (by simp) rfl rfl)
        have x2 : A.eval (.tmp 25) = va 8 := hT 25 8 (by simp) rfl
        have y2 := hd ⟨8, .data⟩ (by simp) rfl rfl
        have hJ' := hJ
        obtain ⟨hJ0, _⟩ := hJ
        obtain ⟨g, us, eg, hg0, hgc, hgR⟩ : ∃ g, ∃ us : List Value, va 8 = .slice (some ⟨g, 0, none⟩) 1 1 ∧ (wr).heap.size ≤ g ∧ w'.heap[g]? = some (.cells us.toArray 28 (0, 0)) ∧ Elt.R Elt.wr (fun k => (wr).heap.size ≤ k ∧ k < w'.heap.size) w' x us := y2
        refine wp_appendL (E := Elt.but Elt.wr (w1.heap.size)) (ys := [x]) wrP rfl e1 (hO.below hJ0) (x2.trans eg) (fun j u hj => by rw [Addr.add_lit, World.cell?, hgc]; simpa using hj) (Flat.single (Elt.weak Elt.wr hgR fun k hk => ⟨hk, fun e => by have := hk.1; have := hB.lt; omega⟩)) (fun k hk => ⟨Nat.le_trans hlo hk.1, hk.2, fun e => by have := hrW k e.symm; omega⟩) (Nat.le_trans hlo hJ0.size) (fun ad7 k7 cap7 w2 h2 hg h3 => ?_) (by simp; omega)
        obtain rfl : k7 = (xs ++ [x]).length := h2.len
        exact ⟨_, rfl, PshJ.app hJ' hB h2 hg hbr h3, (Twb.refl (b := w1.heap.size)).row hg⟩
      case o10 =>
        refine LnOp.side rfl (by kernel_rfl) (fun A va w' k hF hT hk hJ hb hu hp hd => ?_)
        have e1 : A.eval (.tmp 3) = .pointer (some ⟨w1.heap.size, 0, none⟩) := hF 3 rfl
        exact wp_fieldN dlS rfl (e1) (by omega) ⟨_, rfl, rfl, Below.refl _ _⟩
      case o11 =>
        refine LnOp.line 2 rfl rfl (fun A va w' hF hT hJ hu hd => ?_)
        have e1 : A.eval (.tmp 27) = .pointer (some ⟨w1.heap.size, 0 + 0, none⟩) := (hT 27 10 (by simp) rfl).trans (hd ⟨10, .data⟩ (by simp) rfl rfl)
        have x2 : A.eval (.tmp 26) = va 9 := hT 26 9 (by simp) rfl
        have hJ' := hJ
        obtain ⟨hJ0, ad7, c7, es, hOs, hBs, hn7⟩ := hJ
        refine wp_boxSet (j := 0) rfl (by kernel_rfl) e1 (x2.trans es) rfl rfl hBs (by simp) (fun w2 hg hB2 => ?_)
        exact ⟨_, rfl, PshJ.sto hJ' hOs hn7 hg hB2, (Twb.refl (r := Value.ownBlock (.slice ad xs.length ko))).box hg⟩
      case fin =>
        intro vs1 W9 hJ hG
        obtain ⟨htw, ad9, c9, hO9, hB9, hn9⟩ := hJ
        have g0 : vs1 0 = .pointer (some ⟨w1.heap.size, 0 + 0, none⟩) := hG 0 (by decide) rfl
        have g1 : vs1 1 = .slice ad xs.length ko := hG 1 (by decide) rfl
        have g2 : vs1 2 = .pointer (some ⟨w.heap.size, 0 + 0, none⟩) := hG 2 (by decide) rfl
        have g3 : vs1 3 = .slice (some ⟨b, off, none⟩) d.writes.length c := hG 3 (by decide) rfl
        have g4 : vs1 4 = .int .i64 (n : Int) := hG 4 (by decide) rfl
        have g5 : vs1 5 = .pointer (some ⟨b, off + n * 4, none⟩) := hG 5 (by decide) rfl
        have g6 : vs1 6 = .agg #[.int .i64 x.table, .slice KA x.key.length KC, .bool x.gone, .slice VA x.val.length VC] := hG 6 (by decide) rfl
        have g10 : vs1 10 = .pointer (some ⟨w1.heap.size, 0 + 0, none⟩) := hG 10 (by decide) rfl
        clear hG
        simp only [putAll, g0, g1, g2, g3, g4, g5, g6, g10]
        clear g0 g1 g2 g3 g4 g5 g6 g10
        go_simp
        have q9 := htw.belowB (w0 := w1) qr (fun k hk => by have := hrr k hk; omega) (Nat.le_refl _)
        replace hO9 := hO9.unbut
        rw [← hsn.out] at hO9 hB9
        clear hB bnr b0 hO hx hsn htw hn9 c0 c1 c2 c3
        go_wp2_with fail
        go_roundw
        case rel => exact ⟨n + 1, ad9, c9, by go_num, by omega, hO9, hB9, q9⟩
        case measure => simp [intOf]; omega
    · obtain rfl : n = d.writes.length := by omega
      rw [List.take_length] at hO hB
      have b1 := hB.cell (i := 1) rfl
      have b2 := hB.cell (i := 0) rfl
      have bz2 := bz1.below qr bz1.lt
      have hM2 := hM.below qr
      go_wp2_with (first | (refine wpList_boxStore (us := [.slice ad d.writes.length ko, .slice m1 d.marks.length mc]) (by kernel_rfl) rfl rfl rfl rfl rfl rfl bz2 rfl ?_; intro wd hgd hBd) | fail)
      have d0 := hBd.cell (i := 0) rfl
      have d1 := hBd.cell (i := 1) rfl
      obtain ⟨fs, hu, _⟩ := dlS.hu
      refine bodyPost_ret (v := .agg #[.slice ad d.writes.length ko, .slice m1 d.marks.length mc]) (by simp [results, Try.results32, go_sem, loadVar, isAgg, run_underlying hu, run_sizeOf' dlS.hs, loadCellsFrom, Addr.add, d0, d1]) rfl ?_
      have hz1 := hb1.size
      have hzd := hgd.size
      have hB2 := hB.lt
      exact ⟨_, rfl, ⟨ad, ko, m1, mc, w1.heap.size + 1, by omega, by omega, rfl, hO.other hgd (by omega) (by omega), (hM2.other hgd (by omega) (by omega)).to (by omega) (by omega), fun g hg => by have := (hM.block_lt g hg).2; omega⟩, q.grown hgd q.size fun k e => by injection e with e; omega⟩
end Go.Proofs.Ytjbdkhddnblieaa
