/-
  TEXTS OF ONE PROOF, merged: SlR, TreZ, OctB, VerP, VerQ, VerK, VerY.
-/
import Derived.Test.YticngbgjfdcnhaaMg5
namespace Go.Proofs.Yticngbgjfdcnhaa
open Go.RowKit
theorem overlaps_apart2 {P : Program} {T Te Tb : TypeId} {sz : Nat} (hP : LsP P T Te sz) {f : FuncId} {fn : Func} (hf : P.funcs[f]? = some fn) (hname : (fn.name == "runtime.NumGoroutine") = false) (hb : fn.body.isNone = true) (hn : Extern.findNext fn = none) (he : Extern.find fn = some (Extern.SlicesOverlaps.overlaps #[T, T] #[Tb]))
    {w : World} {b g off m k mc kc : Nat} {us : List Value} {cur : Array Value} (hbc : w.heap[b]? = some (.cells us.toArray Te (0, 0))) (hg : w.heap[g]? = some (.cells cur Te (0, 0))) (hne : b ≠ g) (hus : us.length ≠ 0) :
    (callFunc f #[.slice (some ⟨g, off, none⟩) k kc, .slice (some ⟨b, 0, none⟩) m mc]).run P w = .ok (.value (.bool false)) w := by
  obtain ⟨i, hi, hsz⟩ := hP.info
  rw [run_callFunc_extern hf hname hb hn he, Lib.run_overlaps_apart w T Tb Te hP.hT sz (fun w => by simp [sizeOf, typeInfo, hi, hsz]) ⟨g, off, none⟩ ⟨b, 0, none⟩ k kc m mc (fun e => hne e.symm) Te Te cur.size us.length (by simp [World.shape?, hg]) (by simp [World.shape?, hbc]) hus (by simp [World.frozen?, hg]) (by simp [World.frozen?, hg])]
  rfl
theorem rep_new {cur us ws Y : List Value} {p r : Nat} (h1 : p ≤ cur.length) (h2 : us.length = r) :
    ((cur.take p ++ us ++ cur.drop (p + us.length)).take (p + r) ++ ws ++ Y).take (p + r + ws.length) = cur.take p ++ us ++ ws := by
  have e1 : (cur.take p ++ us ++ cur.drop (p + us.length)).take (p + r) = cur.take p ++ us := by
    rw [List.take_append_of_le_length (by simp only [List.length_append, List.length_take, h2]; omega), List.take_of_length_le (by simp only [List.length_append, List.length_take, h2]; omega)]
  rw [e1, List.take_append_of_le_length (by simp only [List.length_append, List.length_take, h2]; omega), List.take_of_length_le (by simp only [List.length_append, List.length_take, h2]; omega)]
theorem rep_cells {cur us ws Y : List Value} {p r : Nat} (h1 : p + r ≤ cur.length) (h2 : us.length = r) :
    ((cur.take (p + r) ++ ws ++ Y).take p ++ us ++ (cur.take (p + r) ++ ws ++ Y).drop (p + us.length)).take (p + r + ws.length) = cur.take p ++ us ++ ws := by
  have e1 : (cur.take (p + r) ++ ws ++ Y).take p = cur.take p := by
    rw [List.append_assoc, List.take_append_of_le_length (by rw [List.length_take]; omega), List.take_take]
    congr 1; omega
  have e2 : (cur.take (p + r) ++ ws ++ Y).drop (p + us.length) = ws ++ Y := by
    rw [h2, List.append_assoc, List.drop_append_of_le_length (by rw [List.length_take]; omega), List.drop_of_length_le (by rw [List.length_take]; omega), List.nil_append]
  rw [e1, e2, ← List.append_assoc]
  rw [List.take_append_of_le_length (by simp only [List.length_append, List.length_take, h2]; omega), List.take_of_length_le (by simp only [List.length_append, List.length_take, h2]; omega)]
theorem RowQ.first {Te : TypeId} {sz : Nat} {w : World} {n i g cap : Nat} {vs : List Value} (h : RowQ Te sz w (.slice (some ⟨g, 0, none⟩) n cap) n vs) (hi : i ≤ n) : RowQ Te sz w (.slice (some ⟨g, 0, none⟩) i cap) i (vs.take (i * sz)) := by
  rcases h.cases with ⟨h, _⟩ | ⟨g', cap', cur, h', h1, h2, h3, h4, h5⟩
  · cases h
  · cases h'
    refine RowQ.of h1 (by omega) h3 h4 ?_ (fun u hu => h.2 u (List.mem_of_mem_take hu))
    rw [← h5, List.take_take, Nat.min_eq_left (Nat.mul_le_mul_right _ hi)]
section
variable {P : Program} {T Te : TypeId} {n : Nat} {ops : Array Oper} {rest : List Oper} {o : Oper} {a : Act} {Q : Exit → Act → World → Prop} {w : World} {K : Act → World → Prop}
theorem wpList_appFit (hP : LsP P T Te n) {s x : Operand} (ho : o.op = .call { callee := .builtin .append, args := #[s, x], argTypes := #[T, T] }) (hgd : Region.wanted o (yielded ops a.tmps) = true) {g k cap : Nat} {cur : Array Value} {t : TypeId} {sa : Addr} {m c : Nat} {cs : List Value} (hs : a.eval s = .slice (some ⟨g, 0, none⟩) k cap) (hx : a.eval x = .slice (some sa) m c)
    (hg : w.heap[g]? = some (.cells cur t (0, 0))) (hl : cs.length = m * n) (hc : ∀ j u, cs[j]? = some u → w.cell? (sa.add j) = some u)
    (h1 : ∀ u ∈ cs, u.oneCell' = true) (hroom : k + m ≤ cap) (hfit : k * n + cs.length ≤ cur.size)
    (h : ∀ w', w'.heap[g]? = some (.cells (cur.toList.take (k * n) ++ cs ++ cur.toList.drop (k * n + cs.length)).toArray t (0, 0)) → w.grownBy w' (some g) → wpList P ops Q rest (a.put o.dst (.slice (some ⟨g, 0, none⟩) (k + m) cap)) w') : wpList P ops Q (o :: rest) a w :=
  BigFrame.wpList_want hgd fun _ hK => wp_appFit hP ho hs hx hg hl hc h1 hroom hfit fun w' h2 h3 => hK _ _ (h w' h2 h3)
end
set_option maxRecDepth 100000 in
set_option maxHeartbeats 4000000 in
theorem replaceEnd_n (w : World) {n i j b m g cap : Nat} {vs us : List Value} (hv : RowQ 28 3 w (.slice (some ⟨g, 0, none⟩) n cap) n vs) (hij : i < j) (_hjn : j ≤ n) (hn : n + m ≤ 1000000) (_hm : 0 < m) (hb : w.heap[b]? = some (.cells us.toArray 28 (0, 0))) (hu : us.length = m * 3) (hu1 : ∀ u ∈ us, u.oneCell' = true) (_hbg : b ≠ g) (hend : j = n) (hlen : n ≤ i + m) :
    Calls Try.prog 50 #[.slice (some ⟨g, 0, none⟩) n cap, .int .i64 i, .int .i64 j, .slice (some ⟨b, 0, none⟩) m m] w (RetRow 28 3 w (.slice (some ⟨g, 0, none⟩) n cap) (i + m + (n - j)) (vs.take (i * 3) ++ us ++ vs.drop (j * 3))) := by
  have hz0 : ((i : Int) == (j : Int)) = false := beq_eq_false_iff_ne.2 (by omega)
  have hcs := new_cells hb
  have hblt := (Array.getElem?_eq_some_iff.1 hb).1
  have hglt := hv.lt (k := g) rfl
  obtain ⟨cur, hg, hnc, hcm, hcs1, hct⟩ : ∃ cur, w.heap[g]? = some (.cells cur 28 (0, 0)) ∧ n ≤ cap ∧ cap ≤ maxLen ∧ cur.size = cap * 3 ∧ cur.toList.take (n * 3) = vs := by
    rcases hv.cases with ⟨h, _⟩ | ⟨g', cap', cur, h, h1, h2, h3, h4, h5⟩
    · cases h
    · cases h
      exact ⟨cur, h1, h2, h3, h4, h5⟩
  have hz1 : ((j : Int) == (n : Int)) = true := beq_iff_eq.2 (by omega)
  have d : decide ((i : Int) + (m : Int) < (n : Int)) = false := decide_eq_false (by omega)
  have hl : vs.drop (j * 3) = [] := List.drop_of_length_le (by rw [hv.len, hend]; exact Nat.le_refl _)
  have hl2 : i + m + (n - j) = i + m := by omega
  rw [hl, hl2, List.append_nil]
  clear hl hl2
  go_enter Try.func50, Try.ntmps50
  go_wp2_with (go_big_may; first
    | (refine wpList_sliceAny ndP.toLsP rfl rfl rfl (l := i) (r := j) (run_bounds_lh _ (by omega) (by omega)) ?_; intro _)
    | (refine wpList_sliceTo ndP.toLsP rfl rfl rfl (r := i) (run_bounds_h _ (by omega)) ?_)
    | (refine wpList_appQ ndP (by omega) rfl rfl (v := .slice (some ⟨g, 0, none⟩) i cap) rfl (hv.first (by omega)) rfl hu hcs hu1 (by omega) ?_; intro ad cap' w' hR)
    | fail)
  go_ret
  exact ⟨_, rfl, hR.1, hR.2⟩
set_option maxRecDepth 100000 in
set_option maxHeartbeats 4000000 in
theorem replaceEndC_n (w : World) {n i j b m g cap : Nat} {vs us : List Value} (hv : RowQ 28 3 w (.slice (some ⟨g, 0, none⟩) n cap) n vs) (hij : i < j) (_hjn : j ≤ n) (_hn : n + m ≤ 1000000) (_hm : 0 < m) (hb : w.heap[b]? = some (.cells us.toArray 28 (0, 0))) (hu : us.length = m * 3) (hu1 : ∀ u ∈ us, u.oneCell' = true) (_hbg : b ≠ g) (hend : j = n) (hlen : i + m < n) :
    Calls Try.prog 50 #[.slice (some ⟨g, 0, none⟩) n cap, .int .i64 i, .int .i64 j, .slice (some ⟨b, 0, none⟩) m m] w (RetRow 28 3 w (.slice (some ⟨g, 0, none⟩) n cap) (i + m + (n - j)) (vs.take (i * 3) ++ us ++ vs.drop (j * 3))) := by
  have hz0 : ((i : Int) == (j : Int)) = false := beq_eq_false_iff_ne.2 (by omega)
  have hcs := new_cells hb
  have hblt := (Array.getElem?_eq_some_iff.1 hb).1
  have hglt := hv.lt (k := g) rfl
  obtain ⟨cur, hg, hnc, hcm, hcs1, hct⟩ : ∃ cur, w.heap[g]? = some (.cells cur 28 (0, 0)) ∧ n ≤ cap ∧ cap ≤ maxLen ∧ cur.size = cap * 3 ∧ cur.toList.take (n * 3) = vs := by
    rcases hv.cases with ⟨h, _⟩ | ⟨g', cap', cur, h, h1, h2, h3, h4, h5⟩
    · cases h
    · cases h
      exact ⟨cur, h1, h2, h3, h4, h5⟩
  have hz1 : ((j : Int) == (n : Int)) = true := beq_iff_eq.2 (by omega)
  have d : decide ((i : Int) + (m : Int) < (n : Int)) = true := decide_eq_true (by omega)
  have hl : vs.drop (j * 3) = [] := List.drop_of_length_le (by rw [hv.len, hend]; exact Nat.le_refl _)
  have hl2 : i + m + (n - j) = i + m := by omega
  rw [hl, hl2, List.append_nil]
  clear hl hl2
  go_enter Try.func50, Try.ntmps50
  go_upto_region 6 with (go_big_may; first
    | (refine wpList_sliceAny ndP.toLsP rfl rfl rfl (l := i) (r := j) (run_bounds_lh _ (by omega) (by omega)) ?_; intro _)
    | (refine wpList_sliceTo ndP.toLsP rfl rfl rfl (r := i) (run_bounds_h _ (by omega)) ?_)
    | (refine wpList_appFit ndP.toLsP rfl rfl rfl rfl hg hu hcs hu1 (by omega) (by rw [hu, hcs1]; omega) ?_; intro w2 hg2 hgr2)
    | fail)
  obtain ⟨C1, hC1⟩ : ∃ C1 : Array Value, C1 = (cur.toList.take (i * 3) ++ us ++ cur.toList.drop (i * 3 + us.length)).toArray := ⟨_, rfl⟩
  replace hg2 : w2.heap[g]? = some (.cells C1 28 (0, 0)) := by rw [hC1]; exact hg2
  have hC1s : C1.size = cap * 3 := by
    rw [hC1]
    simp only [List.size_toArray, List.length_append, List.length_take, List.length_drop, Array.length_toList, hcs1, hu]
    omega
  go_wp2_with (go_big_may; first
    | (refine wpList_sliceFrom ndP.toLsP rfl rfl rfl (l := i + m) (r := n) (run_bounds_l' _ (by omega) (by omega)) (by omega) ?_)
    | (refine wpList_clearQ ndP nd1 rfl rfl rfl rfl hg2 (.inr rfl) (.inr (by rw [hC1s]; omega)) ?_; intro W4 C4 hg4 hs4 ht4 _ hgr4)
    | fail)
  go_ret
  have q4 : Trd (· = g) w W4 := (Trd.ofGrown (F := (· = g)) hgr2 fun k hk => by injection hk with hk; exact hk.symm).trans (Trd.ofGrown (F := (· = g)) hgr4 fun k hk => by injection hk with hk; exact hk.symm) (fun _ _ h => h)
  refine ⟨_, rfl, RowQ.of hg4 (by omega) hcm (by rw [hs4, hC1s]) ?_ ?_, ⟨q4.os, q4.tape, q4.output, q4.size, fun k hk hn => q4.block k hk fun h => hn (by rw [h]; rfl)⟩, .inl rfl⟩
  · have h5 := ht4 (by omega)
    rw [Nat.zero_add] at h5
    rw [h5, hC1, ← hct, List.take_take, Nat.min_eq_left (by omega), Nat.add_mul]
    show List.take _ (List.take _ _ ++ us ++ _) = _
    rw [List.take_append_of_le_length (by simp only [List.length_append, List.length_take, Array.length_toList, hcs1, hu]; omega), List.take_of_length_le (by simp only [List.length_append, List.length_take, hu]; omega)]
  · intro u hu
    rcases List.mem_append.1 hu with h | h
    · exact hv.2 u (List.mem_of_mem_take h)
    · exact hu1 u h
set_option maxRecDepth 100000 in
set_option maxHeartbeats 4000000 in
theorem replaceGrow_n (w : World) {n i j b m g cap : Nat} {vs us : List Value} (hv : RowQ 28 3 w (.slice (some ⟨g, 0, none⟩) n cap) n vs) (hij : i < j) (hjn : j ≤ n) (hn : n + m ≤ 1000000) (hm : 0 < m) (hb : w.heap[b]? = some (.cells us.toArray 28 (0, 0))) (hu : us.length = m * 3) (hu1 : ∀ u ∈ us, u.oneCell' = true) (_hbg : b ≠ g) (hend : j < n) (hroom : cap < i + m + (n - j)) :
    Calls Try.prog 50 #[.slice (some ⟨g, 0, none⟩) n cap, .int .i64 i, .int .i64 j, .slice (some ⟨b, 0, none⟩) m m] w (RetRow 28 3 w (.slice (some ⟨g, 0, none⟩) n cap) (i + m + (n - j)) (vs.take (i * 3) ++ us ++ vs.drop (j * 3))) := by
  have hz0 : ((i : Int) == (j : Int)) = false := beq_eq_false_iff_ne.2 (by omega)
  have hcs := new_cells hb
  have hblt := (Array.getElem?_eq_some_iff.1 hb).1
  have hglt := hv.lt (k := g) rfl
  obtain ⟨cur, hg, hnc, hcm, hcs1, hct⟩ : ∃ cur, w.heap[g]? = some (.cells cur 28 (0, 0)) ∧ n ≤ cap ∧ cap ≤ maxLen ∧ cur.size = cap * 3 ∧ cur.toList.take (n * 3) = vs := by
    rcases hv.cases with ⟨h, _⟩ | ⟨g', cap', cur, h, h1, h2, h3, h4, h5⟩
    · cases h
    · cases h
      exact ⟨cur, h1, h2, h3, h4, h5⟩
  have hz1 : ((j : Int) == (n : Int)) = false := beq_eq_false_iff_ne.2 (by omega)
  obtain ⟨t, ht⟩ : ∃ t : Nat, t = i + m + (n - j) := ⟨_, rfl⟩
  have hti : ((i : Int) + (m : Int)) + ((n - j : Nat) : Int) = (t : Int) := by omega
  rw [← ht] at hroom ⊢
  have d : decide ((cap : Int) < (t : Int)) = true := decide_eq_true (by omega)
  have hl0 : (vs.take (i * 3)).length = i * 3 := by rw [List.length_take, hv.len]; exact Nat.min_eq_left (Nat.mul_le_mul_right _ (by omega))
  have htb1 : i + m ≤ t := by omega
  have htb2 : t ≤ 1000000 := by omega
  have htb3 : i + m + n ≤ t + j := by omega
  have htb4 : t + j ≤ i + m + n := by omega
  clear ht
  go_enter Try.func50, Try.ntmps50
  go_upto_region 9 with (go_big_may; first
    | (refine wpList_sliceAny ndP.toLsP rfl rfl rfl (l := i) (r := j) (run_bounds_lh _ (by omega) (by omega)) ?_; intro _)
    | fail)
  refine wp_region_lnl (K := fun _ _ => True) (by kernel_rfl) (by kernel_rfl) [] (by kernel_rfl) [lEq (.slice (some ⟨g, 0, none⟩) n cap), lEq (.int .i64 (i : Int)), lEq (.slice (some ⟨g, 0, none⟩) i cap), lEq (.int .i64 (i : Nat)), lEq (.slice (some ⟨b, 0, none⟩) m m), lEq (.int .i64 (m : Nat)), lEq (.int .i64 ((i : Int) + (m : Int))), lEq (.slice (some ⟨g, 0, none⟩) n cap), lEq (.int .i64 (j : Int)), lEq (.slice (some ⟨g, 0 + j * 3, none⟩) (n - j) (cap - j)), lEq (.int .i64 ((n - j) : Nat)), lEq (.int .i64 (t : Int)), lEq (.int .i64 (t : Int))] (fun _ W => Below w.heap.size w W) (fun l A B h hb => h.trans (hb.mono h.size)) (Below.refl _ _)
    ⟨?o0, ?o1, ?o2, ?o3, ?o4, ?o5, ?o6, ?o7, ?o8, ?o9, ?o10, ?o11, ?o12, trivial⟩ ?fin
  case o0 =>
    refine LnOp.side rfl (by kernel_rfl) (fun A vs w' k hF hT hk hJ hb hu hp hd => ?_)
    have e1 : A.eval (.tmp 0) = .slice (some ⟨g, 0, none⟩) n cap := hF 0 rfl
    exact BigFrame.wp_move _ rfl ⟨_, rfl, e1, Below.refl _ _⟩
  case o1 =>
    refine LnOp.side rfl (by kernel_rfl) (fun A vs w' k hF hT hk hJ hb hu hp hd => ?_)
    have e1 : A.eval (.tmp 1) = .int .i64 (i : Int) := hF 1 rfl
    exact BigFrame.wp_move _ rfl ⟨_, rfl, e1, Below.refl _ _⟩
  case o2 =>
    refine LnOp.side rfl (by kernel_rfl) (fun A vs w' k hF hT hk hJ hb hu hp hd => ?_)
    have e1 : A.eval (.tmp 45) = .slice (some ⟨g, 0, none⟩) n cap := (hT 45 0 (by simp) rfl).trans (hd ⟨0, .data⟩ (by simp) rfl rfl)
    have e2 : A.eval (.tmp 46) = .int .i64 (i : Int) := (hT 46 1 (by simp) rfl).trans (hd ⟨1, .data⟩ (by simp) rfl rfl)
    exact wp_sliceTo ndP.toLsP rfl (e1) (congrArg some e2) (run_bounds_h _ (by omega)) ⟨_, rfl, rfl, Below.refl _ _⟩
  case o3 =>
    refine LnOp.side rfl (by kernel_rfl) (fun A vs w' k hF hT hk hJ hb hu hp hd => ?_)
    have e1 : A.eval (.tmp 47) = .slice (some ⟨g, 0, none⟩) i cap := (hT 47 2 (by simp) rfl).trans (hd ⟨2, .data⟩ (by simp) rfl rfl)
    exact wp_lenS (e := 28) rfl (by kernel_rfl) (e1) ⟨_, rfl, rfl, Below.refl _ _⟩
  case o4 =>
    refine LnOp.side rfl (by kernel_rfl) (fun A vs w' k hF hT hk hJ hb hu hp hd => ?_)
    have e1 : A.eval (.tmp 3) = .slice (some ⟨b, 0, none⟩) m m := hF 3 rfl
    exact BigFrame.wp_move _ rfl ⟨_, rfl, e1, Below.refl _ _⟩
  case o5 =>
    refine LnOp.side rfl (by kernel_rfl) (fun A vs w' k hF hT hk hJ hb hu hp hd => ?_)
    have e1 : A.eval (.tmp 49) = .slice (some ⟨b, 0, none⟩) m m := (hT 49 4 (by simp) rfl).trans (hd ⟨4, .data⟩ (by simp) rfl rfl)
    exact wp_lenS (e := 28) rfl (by kernel_rfl) (e1) ⟨_, rfl, rfl, Below.refl _ _⟩
  case o6 =>
    refine LnOp.side rfl (by kernel_rfl) (fun A vs w' k hF hT hk hJ hb hu hp hd => ?_)
    have e1 : A.eval (.tmp 48) = .int .i64 (i : Nat) := (hT 48 3 (by simp) rfl).trans (hd ⟨3, .data⟩ (by simp) rfl rfl)
    have e2 : A.eval (.tmp 50) = .int .i64 (m : Nat) := (hT 50 5 (by simp) rfl).trans (hd ⟨5, .data⟩ (by simp) rfl rfl)
    exact wp_addI rfl (e1) (e2) (by omega) (by omega) ⟨_, rfl, rfl, Below.refl _ _⟩
  case o7 =>
    refine LnOp.side rfl (by kernel_rfl) (fun A vs w' k hF hT hk hJ hb hu hp hd => ?_)
    have e1 : A.eval (.tmp 0) = .slice (some ⟨g, 0, none⟩) n cap := hF 0 rfl
    exact BigFrame.wp_move _ rfl ⟨_, rfl, e1, Below.refl _ _⟩
  case o8 =>
    refine LnOp.side rfl (by kernel_rfl) (fun A vs w' k hF hT hk hJ hb hu hp hd => ?_)
    have e1 : A.eval (.tmp 2) = .int .i64 (j : Int) := hF 2 rfl
    exact BigFrame.wp_move _ rfl ⟨_, rfl, e1, Below.refl _ _⟩
  case o9 =>
    refine LnOp.side rfl (by kernel_rfl) (fun A vs w' k hF hT hk hJ hb hu hp hd => ?_)
    have e1 : A.eval (.tmp 52) = .slice (some ⟨g, 0, none⟩) n cap := (hT 52 7 (by simp) rfl).trans (hd ⟨7, .data⟩ (by simp) rfl rfl)
    have e2 : A.eval (.tmp 53) = .int .i64 (j : Int) := (hT 53 8 (by simp) rfl).trans (hd ⟨8, .data⟩ (by simp) rfl rfl)
    exact wp_sliceFrom ndP.toLsP rfl (e1) (congrArg some e2) rfl (run_bounds_l _ (by omega)) (by omega) ⟨_, rfl, rfl, Below.refl _ _⟩
  case o10 =>
    refine LnOp.side rfl (by kernel_rfl) (fun A vs w' k hF hT hk hJ hb hu hp hd => ?_)
    have e1 : A.eval (.tmp 54) = .slice (some ⟨g, 0 + j * 3, none⟩) (n - j) (cap - j) := (hT 54 9 (by simp) rfl).trans (hd ⟨9, .data⟩ (by simp) rfl rfl)
    exact wp_lenS (e := 28) rfl (by kernel_rfl) (e1) ⟨_, rfl, rfl, Below.refl _ _⟩
  case o11 =>
    refine LnOp.side rfl (by kernel_rfl) (fun A vs w' k hF hT hk hJ hb hu hp hd => ?_)
    have e1 : A.eval (.tmp 51) = .int .i64 ((i : Int) + (m : Int)) := (hT 51 6 (by simp) rfl).trans (hd ⟨6, .data⟩ (by simp) rfl rfl)
    have e2 : A.eval (.tmp 55) = .int .i64 ((n - j) : Nat) := (hT 55 10 (by simp) rfl).trans (hd ⟨10, .data⟩ (by simp) rfl rfl)
    exact wp_addI rfl (e1) (e2) (by omega) (by omega) ⟨_, rfl, congrArg (Value.int .i64) hti, Below.refl _ _⟩
  case o12 =>
    refine LnOp.side rfl (by kernel_rfl) (fun A vs w' k hF hT hk hJ hb hu hp hd => ?_)
    have e1 : A.eval (.tmp 56) = .int .i64 (t : Int) := (hT 56 11 (by simp) rfl).trans (hd ⟨11, .data⟩ (by simp) rfl rfl)
    exact BigFrame.wp_assign _ rfl ⟨_, rfl, e1, Below.refl _ _⟩
  case fin =>
  intro vs1 w9 q9 hG
  have e0 : vs1 0 = .slice (some ⟨g, 0, none⟩) n cap := hG 0 (by decide) rfl
  have e1 : vs1 1 = .int .i64 (i : Int) := hG 1 (by decide) rfl
  have e2 : vs1 2 = .slice (some ⟨g, 0, none⟩) i cap := hG 2 (by decide) rfl
  have e3 : vs1 3 = .int .i64 (i : Nat) := hG 3 (by decide) rfl
  have e4 : vs1 4 = .slice (some ⟨b, 0, none⟩) m m := hG 4 (by decide) rfl
  have e5 : vs1 5 = .int .i64 (m : Nat) := hG 5 (by decide) rfl
  have e6 : vs1 6 = .int .i64 ((i : Int) + (m : Int)) := hG 6 (by decide) rfl
  have e7 : vs1 7 = .slice (some ⟨g, 0, none⟩) n cap := hG 7 (by decide) rfl
  have e8 : vs1 8 = .int .i64 (j : Int) := hG 8 (by decide) rfl
  have e9 : vs1 9 = .slice (some ⟨g, 0 + j * 3, none⟩) (n - j) (cap - j) := hG 9 (by decide) rfl
  have e10 : vs1 10 = .int .i64 ((n - j) : Nat) := hG 10 (by decide) rfl
  have e11 : vs1 11 = .int .i64 (t : Int) := hG 11 (by decide) rfl
  have e12 : vs1 12 = .int .i64 (t : Int) := hG 12 (by decide) rfl
  simp only [putAll, e0, e1, e2, e3, e4, e5, e6, e7, e8, e9, e10, e11, e12]
  clear hG e0 e1 e2 e3 e4 e5 e6 e7 e8 e9 e10 e11 e12
  replace hv := hv.below q9
  replace hb := (q9.block b hblt).trans hb
  replace hg := (q9.block g hglt).trans hg
  replace hcs := new_cells hb
  replace hblt := Nat.lt_of_lt_of_le hblt q9.size
  replace hglt := Nat.lt_of_lt_of_le hglt q9.size
  go_simp
  have hcs0 : ∀ (q : Nat) (u : Value), (vs.take (i * 3))[q]? = some u → w9.cell? (Addr.add ⟨g, 0, none⟩ q) = some u := fun q u hj => by
    rw [List.getElem?_take] at hj
    split at hj
    · rw [Addr.add_lit, Nat.zero_add]; exact hv.cell rfl hj
    · cases hj
  go_upto_region 12 with (go_big_may; first
    | (refine wpList_sliceTo ndP.toLsP rfl rfl rfl (r := i) (run_bounds_h _ (by omega)) ?_)
    | (refine wpList_appZ ndP (by omega) (by kernel_rfl) rfl rfl rfl (m := t - i) rfl (by omega) hl0 (fun q hq => by cases hq; exact hcs0) (fun h => by cases h) (by omega) (by omega) (by omega) ?_; intro G cr hG1 hG2 hG3 hG4)
    | fail)
  have hL : i + (t - i) = t := by omega
  rw [hL] at hG1 ⊢
  clear hL
  have hg1 : ((w9.alloc (.cells cr 28)).drew).heap[w9.heap.size]? = some (.cells cr 28 (0, 0)) := by simp only [World.alloc, World.drew, Array.getElem?_push_size]
  have q1 : Below w9.heap.size w9 ((w9.alloc (.cells cr 28)).drew) := ((Below.refl _ _).alloc (Nat.le_refl _) _).drew
  generalize (w9.alloc (.cells cr 28)).drew = W1 at *
  have hcs1' : ∀ (j : Nat) (u : Value), us[j]? = some u → W1.cell? (Addr.add ⟨b, 0, none⟩ j) = some u := fun j u hj => by
    have := hcs j u hj
    rw [Addr.add_lit] at this ⊢
    exact (cell_keep (q1.block b hblt) _).trans this
  go_upto_region 13 with (go_big_may; first
    | (refine wpList_sliceFrom ndP.toLsP rfl rfl rfl (l := i) (r := t) (run_bounds_l _ (by omega)) (by omega) ?_)
    | (refine wpList_copyRaw ndP.toLsP rfl rfl rfl rfl hg1 (cs := us) (by rw [Nat.min_eq_left (by omega)]; exact hu) hcs1' hu1 (by rw [hG3, hu]; omega) ?_; intro W2 hg2 hgr2)
    | fail)
  have q2 : Below w9.heap.size w9 W2 := q1.grown hgr2 q1.size (fun k hk => by injection hk with hk; omega)
  have hdl : (vs.drop (j * 3)).length = (n - j) * 3 := by rw [List.length_drop, hv.len, Nat.sub_mul]
  have hgc : ∀ (W : World), Below w9.heap.size w9 W → ∀ (q : Nat) (u : Value), (vs.drop (j * 3))[q]? = some u → W.cell? (Addr.add ⟨g, 0 + j * 3, none⟩ q) = some u := fun W hW q u hj => by
    rw [List.getElem?_drop] at hj
    rw [Addr.add_lit, Nat.zero_add]
    exact (cell_keep (hW.block g hglt) _).trans (hv.cell rfl hj)
  obtain ⟨C1, hC1⟩ : ∃ C1 : Array Value, C1 = (cr.toList.take (i * 3) ++ us ++ cr.toList.drop (i * 3 + us.length)).toArray := ⟨_, rfl⟩
  replace hg2 : W2.heap[w9.heap.size]? = some (.cells C1 28 (0, 0)) := by rw [hC1]; simpa using hg2
  have hC1s : C1.size = G * 3 := by
    rw [hC1]
    simp only [List.size_toArray, List.length_append, List.length_take, List.length_drop, Array.length_toList, hG3, hu]
    omega
  refine wp_region_lnl (K := fun _ _ => True) (by kernel_rfl) (by kernel_rfl) [9] (by kernel_rfl) [lEq (.slice (some ⟨w9.heap.size, 0, none⟩) t G), lEq (.int .i64 (i : Int)), lEq (.slice (some ⟨b, 0, none⟩) m m), lEq (.int .i64 (m : Nat)), lEq (.int .i64 ((i : Int) + (m : Int))), lEq (.slice (some ⟨w9.heap.size, 0 + (i + m) * 3, none⟩) (t - (i + m)) (G - (i + m))), lEq (.slice (some ⟨g, 0, none⟩) n cap), lEq (.int .i64 (j : Int)), lEq (.slice (some ⟨g, 0 + j * 3, none⟩) (n - j) (cap - j)), lAny] (fun l W => Below w9.heap.size w9 W ∧ W.heap[w9.heap.size]? = some (.cells (match l with | [] => C1 | _ :: _ => (C1.toList.take (0 + (i + m) * 3) ++ vs.drop (j * 3) ++ C1.toList.drop (0 + (i + m) * 3 + (vs.drop (j * 3)).length)).toArray) 28 (0, 0))) (fun l A B h hb => ⟨h.1.trans (hb.mono h.1.size), (hb.block _ (Array.getElem?_eq_some_iff.1 h.2).1).trans h.2⟩) ⟨q2, hg2⟩
    ⟨?o0, ?o1, ?o2, ?o3, ?o4, ?o5, ?o6, ?o7, ?o8, ?o9, trivial⟩ ?fin2
  case o0 =>
    refine LnOp.side rfl (by kernel_rfl) (fun A vs w' k hF hT hk hJ hb hu hp hd => ?_)
    have e1 : A.eval (.tmp 11) = .slice (some ⟨w9.heap.size, 0, none⟩) t G := hF 11 rfl
    exact BigFrame.wp_move _ rfl ⟨_, rfl, e1, Below.refl _ _⟩
  case o1 =>
    refine LnOp.side rfl (by kernel_rfl) (fun A vs w' k hF hT hk hJ hb hu hp hd => ?_)
    have e1 : A.eval (.tmp 1) = .int .i64 (i : Int) := hF 1 rfl
    exact BigFrame.wp_move _ rfl ⟨_, rfl, e1, Below.refl _ _⟩
  case o2 =>
    refine LnOp.side rfl (by kernel_rfl) (fun A vs w' k hF hT hk hJ hb hu hp hd => ?_)
    have e1 : A.eval (.tmp 3) = .slice (some ⟨b, 0, none⟩) m m := hF 3 rfl
    exact BigFrame.wp_move _ rfl ⟨_, rfl, e1, Below.refl _ _⟩
  case o3 =>
    refine LnOp.side rfl (by kernel_rfl) (fun A vs w' k hF hT hk hJ hb hu hp hd => ?_)
    have e1 : A.eval (.tmp 75) = .slice (some ⟨b, 0, none⟩) m m := (hT 75 2 (by simp [size_put]) rfl).trans (hd ⟨2, .data⟩ (by simp) rfl rfl)
    exact wp_lenS (e := 28) rfl (by kernel_rfl) (e1) ⟨_, rfl, rfl, Below.refl _ _⟩
  case o4 =>
    refine LnOp.side rfl (by kernel_rfl) (fun A vs w' k hF hT hk hJ hb hu hp hd => ?_)
    have e1 : A.eval (.tmp 74) = .int .i64 (i : Int) := (hT 74 1 (by simp [size_put]) rfl).trans (hd ⟨1, .data⟩ (by simp) rfl rfl)
    have e2 : A.eval (.tmp 76) = .int .i64 (m : Nat) := (hT 76 3 (by simp [size_put]) rfl).trans (hd ⟨3, .data⟩ (by simp) rfl rfl)
    exact wp_addI rfl (e1) (e2) (by omega) (by omega) ⟨_, rfl, rfl, Below.refl _ _⟩
  case o5 =>
    refine LnOp.side rfl (by kernel_rfl) (fun A vs w' k hF hT hk hJ hb hu hp hd => ?_)
    have e1 : A.eval (.tmp 73) = .slice (some ⟨w9.heap.size, 0, none⟩) t G := (hT 73 0 (by simp [size_put]) rfl).trans (hd ⟨0, .data⟩ (by simp) rfl rfl)
    have e2 : A.eval (.tmp 77) = .int .i64 ((i : Int) + (m : Int)) := (hT 77 4 (by simp [size_put]) rfl).trans (hd ⟨4, .data⟩ (by simp) rfl rfl)
    exact wp_sliceFrom ndP.toLsP rfl (e1) (congrArg some e2) rfl (run_bounds_l' _ (by omega) (by omega)) (by omega) ⟨_, rfl, rfl, Below.refl _ _⟩
  case o6 =>
    refine LnOp.side rfl (by kernel_rfl) (fun A vs w' k hF hT hk hJ hb hu hp hd => ?_)
    have e1 : A.eval (.tmp 0) = .slice (some ⟨g, 0, none⟩) n cap := hF 0 rfl
    exact BigFrame.wp_move _ rfl ⟨_, rfl, e1, Below.refl _ _⟩
  case o7 =>
    refine LnOp.side rfl (by kernel_rfl) (fun A vs w' k hF hT hk hJ hb hu hp hd => ?_)
    have e1 : A.eval (.tmp 2) = .int .i64 (j : Int) := hF 2 rfl
    exact BigFrame.wp_move _ rfl ⟨_, rfl, e1, Below.refl _ _⟩
  case o8 =>
    refine LnOp.side rfl (by kernel_rfl) (fun A vs w' k hF hT hk hJ hb hu hp hd => ?_)
    have e1 : A.eval (.tmp 79) = .slice (some ⟨g, 0, none⟩) n cap := (hT 79 6 (by simp [size_put]) rfl).trans (hd ⟨6, .data⟩ (by simp) rfl rfl)
    have e2 : A.eval (.tmp 80) = .int .i64 (j : Int) := (hT 80 7 (by simp [size_put]) rfl).trans (hd ⟨7, .data⟩ (by simp) rfl rfl)
    exact wp_sliceFrom ndP.toLsP rfl (e1) (congrArg some e2) rfl (run_bounds_l' _ (by omega) (by omega)) (by omega) ⟨_, rfl, rfl, Below.refl _ _⟩
  case o9 =>
    refine LnOp.line 0 rfl rfl (fun A va w' hF hT hJ hu hd => ?_)
    have e1 : A.eval (.tmp 78) = .slice (some ⟨w9.heap.size, 0 + (i + m) * 3, none⟩) (t - (i + m)) (G - (i + m)) := (hT 78 5 (by simp [size_put]) rfl).trans (hd ⟨5, .data⟩ (by simp) rfl rfl)
    have e2 : A.eval (.tmp 81) = .slice (some ⟨g, 0 + j * 3, none⟩) (n - j) (cap - j) := (hT 81 8 (by simp [size_put]) rfl).trans (hd ⟨8, .data⟩ (by simp) rfl rfl)
    refine wp_copyRaw ndP.toLsP rfl e1 e2 hJ.2 (cs := vs.drop (j * 3)) (by rw [hdl, Nat.min_eq_left (by omega)]) (hgc _ hJ.1) (fun u hu => hv.2 u (List.mem_of_mem_drop hu)) ?_ ?_
    · show 0 + (i + m) * 3 + (vs.drop (j * 3)).length ≤ C1.size
      rw [hC1s, hdl]
      omega
    · intro W3 hg3 hgr3
      exact ⟨_, rfl, ⟨hJ.1.grown hgr3 hJ.1.size (fun k hk => by injection hk with hk; omega), hg3⟩, trivial⟩
  case fin2 =>
  intro vs1 W3 hJ hG
  have e0 : vs1 0 = .slice (some ⟨w9.heap.size, 0, none⟩) t G := hG 0 (by decide) rfl
  have e1 : vs1 1 = .int .i64 (i : Int) := hG 1 (by decide) rfl
  have e2 : vs1 2 = .slice (some ⟨b, 0, none⟩) m m := hG 2 (by decide) rfl
  have e3 : vs1 3 = .int .i64 (m : Nat) := hG 3 (by decide) rfl
  have e4 : vs1 4 = .int .i64 ((i : Int) + (m : Int)) := hG 4 (by decide) rfl
  have e5 : vs1 5 = .slice (some ⟨w9.heap.size, 0 + (i + m) * 3, none⟩) (t - (i + m)) (G - (i + m)) := hG 5 (by decide) rfl
  have e6 : vs1 6 = .slice (some ⟨g, 0, none⟩) n cap := hG 6 (by decide) rfl
  have e7 : vs1 7 = .int .i64 (j : Int) := hG 7 (by decide) rfl
  have e8 : vs1 8 = .slice (some ⟨g, 0 + j * 3, none⟩) (n - j) (cap - j) := hG 8 (by decide) rfl
  simp only [putAll, e0, e1, e2, e3, e4, e5, e6, e7, e8]
  clear hG e0 e1 e2 e3 e4 e5 e6 e7 e8
  go_simp
  go_wp2_with fail
  go_ret
  refine ⟨_, rfl, RowQ.of hJ.2 hG1 hG2 ?_ ?_ ?_, ?_, .inr ⟨_, rfl, q9.size⟩⟩
  · show (List.toArray _).size = _
    simp only [List.size_toArray, List.length_append, List.length_take, List.length_drop, Array.length_toList, hC1s, hv.len]
    omega
  · show List.take _ (C1.toList.take _ ++ _ ++ C1.toList.drop _) = _
    have := rep_new (cur := cr.toList) (us := us) (ws := vs.drop (j * 3)) (Y := (cr.toList.take (i * 3) ++ us ++ cr.toList.drop (i * 3 + us.length)).drop ((i + m) * 3 + (vs.drop (j * 3)).length)) (p := i * 3) (r := m * 3) (by rw [Array.length_toList, hG3]; omega) hu
    rw [← Nat.add_mul] at this
    rw [Nat.zero_add, show t * 3 = (i + m) * 3 + (vs.drop (j * 3)).length by rw [hdl, ← Nat.add_mul]; congr 1; omega, hC1, ← hG4]
    exact this
  · intro u hu
    rcases List.mem_append.1 hu with h | h
    · rcases List.mem_append.1 h with h | h
      · exact hv.2 u (List.mem_of_mem_take h)
      · exact hu1 u h
    · exact hv.2 u (List.mem_of_mem_drop h)
  · have q3 := q9.trans (hJ.1.mono q9.size)
    exact ⟨q3.os, q3.tape, q3.output, q3.size, fun k hk _ => q3.block k hk⟩
set_option maxRecDepth 100000 in
set_option maxHeartbeats 4000000 in
theorem replaceLess_n (w : World) {n i j b m g cap : Nat} {vs us : List Value} (hv : RowQ 28 3 w (.slice (some ⟨g, 0, none⟩) n cap) n vs) (hij : i < j) (hjn : j ≤ n) (hn : n + m ≤ 1000000) (hm : 0 < m) (hb : w.heap[b]? = some (.cells us.toArray 28 (0, 0))) (hu : us.length = m * 3) (hu1 : ∀ u ∈ us, u.oneCell' = true) (_hbg : b ≠ g) (hend : j < n) (hless : i + m < j) :
    Calls Try.prog 50 #[.slice (some ⟨g, 0, none⟩) n cap, .int .i64 i, .int .i64 j, .slice (some ⟨b, 0, none⟩) m m] w (RetRow 28 3 w (.slice (some ⟨g, 0, none⟩) n cap) (i + m + (n - j)) (vs.take (i * 3) ++ us ++ vs.drop (j * 3))) := by
  have hz0 : ((i : Int) == (j : Int)) = false := beq_eq_false_iff_ne.2 (by omega)
  have hcs := new_cells hb
  have hblt := (Array.getElem?_eq_some_iff.1 hb).1
  have hglt := hv.lt (k := g) rfl
  obtain ⟨cur, hg, hnc, hcm, hcs1, hct⟩ : ∃ cur, w.heap[g]? = some (.cells cur 28 (0, 0)) ∧ n ≤ cap ∧ cap ≤ maxLen ∧ cur.size = cap * 3 ∧ cur.toList.take (n * 3) = vs := by
    rcases hv.cases with ⟨h, _⟩ | ⟨g', cap', cur, h, h1, h2, h3, h4, h5⟩
    · cases h
    · cases h
      exact ⟨cur, h1, h2, h3, h4, h5⟩
  have hz1 : ((j : Int) == (n : Int)) = false := beq_eq_false_iff_ne.2 (by omega)
  obtain ⟨t, ht⟩ : ∃ t : Nat, t = i + m + (n - j) := ⟨_, rfl⟩
  have hti : ((i : Int) + (m : Int)) + ((n - j : Nat) : Int) = (t : Int) := by omega
  rw [← ht]
  have d : decide ((cap : Int) < (t : Int)) = false := decide_eq_false (by omega)
  have d2 : decide ((i : Int) + (m : Int) ≤ (j : Int)) = true := decide_eq_true (by omega)
  have hdl : (vs.drop (j * 3)).length = (n - j) * 3 := by rw [List.length_drop, hv.len, Nat.sub_mul]
  have htn : t < n := by omega
  have htb1 : i + m ≤ t := by omega
  have htb2 : t ≤ 1000000 := by omega
  have htb3 : i + m + n ≤ t + j := by omega
  have htb4 : t + j ≤ i + m + n := by omega
  clear ht
  go_enter Try.func50, Try.ntmps50
  go_upto_region 9 with (go_big_may; first
    | (refine wpList_sliceAny ndP.toLsP rfl rfl rfl (l := i) (r := j) (run_bounds_lh _ (by omega) (by omega)) ?_; intro _)
    | fail)
  refine wp_region_lnl (K := fun _ _ => True) (by kernel_rfl) (by kernel_rfl) [] (by kernel_rfl) [lEq (.slice (some ⟨g, 0, none⟩) n cap), lEq (.int .i64 (i : Int)), lEq (.slice (some ⟨g, 0, none⟩) i cap), lEq (.int .i64 (i : Nat)), lEq (.slice (some ⟨b, 0, none⟩) m m), lEq (.int .i64 (m : Nat)), lEq (.int .i64 ((i : Int) + (m : Int))), lEq (.slice (some ⟨g, 0, none⟩) n cap), lEq (.int .i64 (j : Int)), lEq (.slice (some ⟨g, 0 + j * 3, none⟩) (n - j) (cap - j)), lEq (.int .i64 ((n - j) : Nat)), lEq (.int .i64 (t : Int)), lEq (.int .i64 (t : Int))] (fun _ W => Below w.heap.size w W) (fun l A B h hb => h.trans (hb.mono h.size)) (Below.refl _ _)
    ⟨?o0, ?o1, ?o2, ?o3, ?o4, ?o5, ?o6, ?o7, ?o8, ?o9, ?o10, ?o11, ?o12, trivial⟩ ?fin
  case o0 =>
    refine LnOp.side rfl (by kernel_rfl) (fun A vs w' k hF hT hk hJ hb hu hp hd => ?_)
    have e1 : A.eval (.tmp 0) = .slice (some ⟨g, 0, none⟩) n cap := hF 0 rfl
    exact BigFrame.wp_move _ rfl ⟨_, rfl, e1, Below.refl _ _⟩
  case o1 =>
    refine LnOp.side rfl (by kernel_rfl) (fun A vs w' k hF hT hk hJ hb hu hp hd => ?_)
    have e1 : A.eval (.tmp 1) = .int .i64 (i : Int) := hF 1 rfl
    exact BigFrame.wp_move _ rfl ⟨_, rfl, e1, Below.refl _ _⟩
  case o2 =>
    refine LnOp.side rfl (by kernel_rfl) (fun A vs w' k hF hT hk hJ hb hu hp hd => ?_)
    have e1 : A.eval (.tmp 45) = .slice (some ⟨g, 0, none⟩) n cap := (hT 45 0 (by simp) rfl).trans (hd ⟨0, .data⟩ (by simp) rfl rfl)
    have e2 : A.eval (.tmp 46) = .int .i64 (i : Int) := (hT 46 1 (by simp) rfl).trans (hd ⟨1, .data⟩ (by simp) rfl rfl)
    exact wp_sliceTo ndP.toLsP rfl (e1) (congrArg some e2) (run_bounds_h _ (by omega)) ⟨_, rfl, rfl, Below.refl _ _⟩
  case o3 =>
    refine LnOp.side rfl (by kernel_rfl) (fun A vs w' k hF hT hk hJ hb hu hp hd => ?_)
    have e1 : A.eval (.tmp 47) = .slice (some ⟨g, 0, none⟩) i cap := (hT 47 2 (by simp) rfl).trans (hd ⟨2, .data⟩ (by simp) rfl rfl)
    exact wp_lenS (e := 28) rfl (by kernel_rfl) (e1) ⟨_, rfl, rfl, Below.refl _ _⟩
  case o4 =>
    refine LnOp.side rfl (by kernel_rfl) (fun A vs w' k hF hT hk hJ hb hu hp hd => ?_)
    have e1 : A.eval (.tmp 3) = .slice (some ⟨b, 0, none⟩) m m := hF 3 rfl
    exact BigFrame.wp_move _ rfl ⟨_, rfl, e1, Below.refl _ _⟩
  case o5 =>
    refine LnOp.side rfl (by kernel_rfl) (fun A vs w' k hF hT hk hJ hb hu hp hd => ?_)
    have e1 : A.eval (.tmp 49) = .slice (some ⟨b, 0, none⟩) m m := (hT 49 4 (by simp) rfl).trans (hd ⟨4, .data⟩ (by simp) rfl rfl)
    exact wp_lenS (e := 28) rfl (by kernel_rfl) (e1) ⟨_, rfl, rfl, Below.refl _ _⟩
  case o6 =>
    refine LnOp.side rfl (by kernel_rfl) (fun A vs w' k hF hT hk hJ hb hu hp hd => ?_)
    have e1 : A.eval (.tmp 48) = .int .i64 (i : Nat) := (hT 48 3 (by simp) rfl).trans (hd ⟨3, .data⟩ (by simp) rfl rfl)
    have e2 : A.eval (.tmp 50) = .int .i64 (m : Nat) := (hT 50 5 (by simp) rfl).trans (hd ⟨5, .data⟩ (by simp) rfl rfl)
    exact wp_addI rfl (e1) (e2) (by omega) (by omega) ⟨_, rfl, rfl, Below.refl _ _⟩
  case o7 =>
    refine LnOp.side rfl (by kernel_rfl) (fun A vs w' k hF hT hk hJ hb hu hp hd => ?_)
    have e1 : A.eval (.tmp 0) = .slice (some ⟨g, 0, none⟩) n cap := hF 0 rfl
    exact BigFrame.wp_move _ rfl ⟨_, rfl, e1, Below.refl _ _⟩
  case o8 =>
    refine LnOp.side rfl (by kernel_rfl) (fun A vs w' k hF hT hk hJ hb hu hp hd => ?_)
    have e1 : A.eval (.tmp 2) = .int .i64 (j : Int) := hF 2 rfl
    exact BigFrame.wp_move _ rfl ⟨_, rfl, e1, Below.refl _ _⟩
  case o9 =>
    refine LnOp.side rfl (by kernel_rfl) (fun A vs w' k hF hT hk hJ hb hu hp hd => ?_)
    have e1 : A.eval (.tmp 52) = .slice (some ⟨g, 0, none⟩) n cap := (hT 52 7 (by simp) rfl).trans (hd ⟨7, .data⟩ (by simp) rfl rfl)
    have e2 : A.eval (.tmp 53) = .int .i64 (j : Int) := (hT 53 8 (by simp) rfl).trans (hd ⟨8, .data⟩ (by simp) rfl rfl)
    exact wp_sliceFrom ndP.toLsP rfl (e1) (congrArg some e2) rfl (run_bounds_l _ (by omega)) (by omega) ⟨_, rfl, rfl, Below.refl _ _⟩
  case o10 =>
    refine LnOp.side rfl (by kernel_rfl) (fun A vs w' k hF hT hk hJ hb hu hp hd => ?_)
    have e1 : A.eval (.tmp 54) = .slice (some ⟨g, 0 + j * 3, none⟩) (n - j) (cap - j) := (hT 54 9 (by simp) rfl).trans (hd ⟨9, .data⟩ (by simp) rfl rfl)
    exact wp_lenS (e := 28) rfl (by kernel_rfl) (e1) ⟨_, rfl, rfl, Below.refl _ _⟩
  case o11 =>
    refine LnOp.side rfl (by kernel_rfl) (fun A vs w' k hF hT hk hJ hb hu hp hd => ?_)
    have e1 : A.eval (.tmp 51) = .int .i64 ((i : Int) + (m : Int)) := (hT 51 6 (by simp) rfl).trans (hd ⟨6, .data⟩ (by simp) rfl rfl)
    have e2 : A.eval (.tmp 55) = .int .i64 ((n - j) : Nat) := (hT 55 10 (by simp) rfl).trans (hd ⟨10, .data⟩ (by simp) rfl rfl)
    exact wp_addI rfl (e1) (e2) (by omega) (by omega) ⟨_, rfl, congrArg (Value.int .i64) hti, Below.refl _ _⟩
  case o12 =>
    refine LnOp.side rfl (by kernel_rfl) (fun A vs w' k hF hT hk hJ hb hu hp hd => ?_)
    have e1 : A.eval (.tmp 56) = .int .i64 (t : Int) := (hT 56 11 (by simp) rfl).trans (hd ⟨11, .data⟩ (by simp) rfl rfl)
    exact BigFrame.wp_assign _ rfl ⟨_, rfl, e1, Below.refl _ _⟩
  case fin =>
  intro vs1 w9 q9 hG
  have e0 : vs1 0 = .slice (some ⟨g, 0, none⟩) n cap := hG 0 (by decide) rfl
  have e1 : vs1 1 = .int .i64 (i : Int) := hG 1 (by decide) rfl
  have e2 : vs1 2 = .slice (some ⟨g, 0, none⟩) i cap := hG 2 (by decide) rfl
  have e3 : vs1 3 = .int .i64 (i : Nat) := hG 3 (by decide) rfl
  have e4 : vs1 4 = .slice (some ⟨b, 0, none⟩) m m := hG 4 (by decide) rfl
  have e5 : vs1 5 = .int .i64 (m : Nat) := hG 5 (by decide) rfl
  have e6 : vs1 6 = .int .i64 ((i : Int) + (m : Int)) := hG 6 (by decide) rfl
  have e7 : vs1 7 = .slice (some ⟨g, 0, none⟩) n cap := hG 7 (by decide) rfl
  have e8 : vs1 8 = .int .i64 (j : Int) := hG 8 (by decide) rfl
  have e9 : vs1 9 = .slice (some ⟨g, 0 + j * 3, none⟩) (n - j) (cap - j) := hG 9 (by decide) rfl
  have e10 : vs1 10 = .int .i64 ((n - j) : Nat) := hG 10 (by decide) rfl
  have e11 : vs1 11 = .int .i64 (t : Int) := hG 11 (by decide) rfl
  have e12 : vs1 12 = .int .i64 (t : Int) := hG 12 (by decide) rfl
  simp only [putAll, e0, e1, e2, e3, e4, e5, e6, e7, e8, e9, e10, e11, e12]
  clear hG e0 e1 e2 e3 e4 e5 e6 e7 e8 e9 e10 e11 e12
  replace hv := hv.below q9
  replace hb := (q9.block b hblt).trans hb
  replace hg := (q9.block g hglt).trans hg
  replace hcs := new_cells hb
  replace hblt := Nat.lt_of_lt_of_le hblt q9.size
  replace hglt := Nat.lt_of_lt_of_le hglt q9.size
  go_simp
  go_upto_region 18 with (go_big_may; first
    | (refine wpList_sliceTo ndP.toLsP rfl rfl rfl (r := t) (run_bounds_h _ (by omega)) ?_)
    | (refine wpList_sliceFrom ndP.toLsP rfl rfl rfl (l := i) (r := t) (run_bounds_l _ (by omega)) (by omega) ?_)
    | (refine wpList_copyRaw ndP.toLsP rfl rfl rfl rfl hg (cs := us) (by rw [Nat.min_eq_left (by omega)]; exact hu) hcs hu1 (by rw [hcs1, hu]; omega) ?_; intro W2 hg2 hgr2)
    | fail)
  have q2 : Trd (· = g) w9 W2 := Trd.ofGrown (F := (· = g)) hgr2 fun k hk => by injection hk with hk; exact hk.symm
  obtain ⟨C1, hC1⟩ : ∃ C1 : Array Value, C1 = (cur.toList.take (i * 3) ++ us ++ cur.toList.drop (i * 3 + us.length)).toArray := ⟨_, rfl⟩
  replace hg2 : W2.heap[g]? = some (.cells C1 28 (0, 0)) := by rw [hC1]; simpa using hg2
  have hC1s : C1.size = cap * 3 := by
    rw [hC1]
    simp only [List.size_toArray, List.length_append, List.length_take, List.length_drop, Array.length_toList, hcs1, hu]
    omega
  have hC1d : ∀ (q : Nat) (u : Value), (vs.drop (j * 3))[q]? = some u → C1.toList[j * 3 + q]? = some u := fun q u hj => by
    rw [List.getElem?_drop, ← hct, List.getElem?_take] at hj
    split at hj
    · have e : (cur.toList.take (i * 3) ++ us).length = i * 3 + m * 3 := by
        simp only [List.length_append, List.length_take, Array.length_toList, hcs1, hu]
        omega
      rw [hC1]
      show (_ ++ us ++ _ : List Value)[_]? = _
      rw [List.getElem?_append_right (by omega), e, List.getElem?_drop, hu]
      rw [show i * 3 + m * 3 + (j * 3 + q - (i * 3 + m * 3)) = j * 3 + q by omega]
      exact hj
    · cases hj
  refine wp_region_lnl (K := fun _ _ => True) (by kernel_rfl) (by kernel_rfl) [9] (by kernel_rfl) [lEq (.slice (some ⟨g, 0, none⟩) t cap), lEq (.int .i64 (i : Int)), lEq (.slice (some ⟨b, 0, none⟩) m m), lEq (.int .i64 (m : Nat)), lEq (.int .i64 ((i : Int) + (m : Int))), lEq (.slice (some ⟨g, 0 + (i + m) * 3, none⟩) (t - (i + m)) (cap - (i + m))), lEq (.slice (some ⟨g, 0, none⟩) n cap), lEq (.int .i64 (j : Int)), lEq (.slice (some ⟨g, 0 + j * 3, none⟩) (n - j) (cap - j)), lAny] (fun l W => Trd (· = g) w9 W ∧ W.heap[g]? = some (.cells (match l with | [] => C1 | _ :: _ => (C1.toList.take (0 + (i + m) * 3) ++ vs.drop (j * 3) ++ C1.toList.drop (0 + (i + m) * 3 + (vs.drop (j * 3)).length)).toArray) 28 (0, 0))) (fun l A B h hb => ⟨h.1.trans (Trd.of (F := (· = g)) hb) (fun _ _ h => h), (hb.block _ (Array.getElem?_eq_some_iff.1 h.2).1).trans h.2⟩) ⟨q2, hg2⟩
    ⟨?o0, ?o1, ?o2, ?o3, ?o4, ?o5, ?o6, ?o7, ?o8, ?o9, trivial⟩ ?fin2
  case o0 =>
    refine LnOp.side rfl (by kernel_rfl) (fun A vs w' k hF hT hk hJ hb hu hp hd => ?_)
    have e1 : A.eval (.tmp 12) = .slice (some ⟨g, 0, none⟩) t cap := hF 12 rfl
    exact BigFrame.wp_move _ rfl ⟨_, rfl, e1, Below.refl _ _⟩
  case o1 =>
    refine LnOp.side rfl (by kernel_rfl) (fun A vs w' k hF hT hk hJ hb hu hp hd => ?_)
    have e1 : A.eval (.tmp 1) = .int .i64 (i : Int) := hF 1 rfl
    exact BigFrame.wp_move _ rfl ⟨_, rfl, e1, Below.refl _ _⟩
  case o2 =>
    refine LnOp.side rfl (by kernel_rfl) (fun A vs w' k hF hT hk hJ hb hu hp hd => ?_)
    have e1 : A.eval (.tmp 3) = .slice (some ⟨b, 0, none⟩) m m := hF 3 rfl
    exact BigFrame.wp_move _ rfl ⟨_, rfl, e1, Below.refl _ _⟩
  case o3 =>
    refine LnOp.side rfl (by kernel_rfl) (fun A vs w' k hF hT hk hJ hb hu hp hd => ?_)
    have e1 : A.eval (.tmp 100) = .slice (some ⟨b, 0, none⟩) m m := (hT 100 2 (by simp [size_put]) rfl).trans (hd ⟨2, .data⟩ (by simp) rfl rfl)
    exact wp_lenS (e := 28) rfl (by kernel_rfl) (e1) ⟨_, rfl, rfl, Below.refl _ _⟩
  case o4 =>
    refine LnOp.side rfl (by kernel_rfl) (fun A vs w' k hF hT hk hJ hb hu hp hd => ?_)
    have e1 : A.eval (.tmp 99) = .int .i64 (i : Int) := (hT 99 1 (by simp [size_put]) rfl).trans (hd ⟨1, .data⟩ (by simp) rfl rfl)
    have e2 : A.eval (.tmp 101) = .int .i64 (m : Nat) := (hT 101 3 (by simp [size_put]) rfl).trans (hd ⟨3, .data⟩ (by simp) rfl rfl)
    exact wp_addI rfl (e1) (e2) (by omega) (by omega) ⟨_, rfl, rfl, Below.refl _ _⟩
  case o5 =>
    refine LnOp.side rfl (by kernel_rfl) (fun A vs w' k hF hT hk hJ hb hu hp hd => ?_)
    have e1 : A.eval (.tmp 98) = .slice (some ⟨g, 0, none⟩) t cap := (hT 98 0 (by simp [size_put]) rfl).trans (hd ⟨0, .data⟩ (by simp) rfl rfl)
    have e2 : A.eval (.tmp 102) = .int .i64 ((i : Int) + (m : Int)) := (hT 102 4 (by simp [size_put]) rfl).trans (hd ⟨4, .data⟩ (by simp) rfl rfl)
    exact wp_sliceFrom ndP.toLsP rfl (e1) (congrArg some e2) rfl (run_bounds_l' _ (by omega) (by omega)) (by omega) ⟨_, rfl, rfl, Below.refl _ _⟩
  case o6 =>
    refine LnOp.side rfl (by kernel_rfl) (fun A vs w' k hF hT hk hJ hb hu hp hd => ?_)
    have e1 : A.eval (.tmp 0) = .slice (some ⟨g, 0, none⟩) n cap := hF 0 rfl
    exact BigFrame.wp_move _ rfl ⟨_, rfl, e1, Below.refl _ _⟩
  case o7 =>
    refine LnOp.side rfl (by kernel_rfl) (fun A vs w' k hF hT hk hJ hb hu hp hd => ?_)
    have e1 : A.eval (.tmp 2) = .int .i64 (j : Int) := hF 2 rfl
    exact BigFrame.wp_move _ rfl ⟨_, rfl, e1, Below.refl _ _⟩
  case o8 =>
    refine LnOp.side rfl (by kernel_rfl) (fun A vs w' k hF hT hk hJ hb hu hp hd => ?_)
    have e1 : A.eval (.tmp 104) = .slice (some ⟨g, 0, none⟩) n cap := (hT 104 6 (by simp [size_put]) rfl).trans (hd ⟨6, .data⟩ (by simp) rfl rfl)
    have e2 : A.eval (.tmp 105) = .int .i64 (j : Int) := (hT 105 7 (by simp [size_put]) rfl).trans (hd ⟨7, .data⟩ (by simp) rfl rfl)
    exact wp_sliceFrom ndP.toLsP rfl (e1) (congrArg some e2) rfl (run_bounds_l' _ (by omega) (by omega)) (by omega) ⟨_, rfl, rfl, Below.refl _ _⟩
  case o9 =>
    refine LnOp.line 0 rfl rfl (fun A va w' hF hT hJ hu hd => ?_)
    have e1 : A.eval (.tmp 103) = .slice (some ⟨g, 0 + (i + m) * 3, none⟩) (t - (i + m)) (cap - (i + m)) := (hT 103 5 (by simp [size_put]) rfl).trans (hd ⟨5, .data⟩ (by simp) rfl rfl)
    have e2 : A.eval (.tmp 106) = .slice (some ⟨g, 0 + j * 3, none⟩) (n - j) (cap - j) := (hT 106 8 (by simp [size_put]) rfl).trans (hd ⟨8, .data⟩ (by simp) rfl rfl)
    refine wp_copyRaw ndP.toLsP rfl e1 e2 hJ.2 (cs := vs.drop (j * 3)) (by rw [hdl, Nat.min_eq_left (by omega)]) (fun q u hj => ?_) (fun u hu => hv.2 u (List.mem_of_mem_drop hu)) ?_ ?_
    · rw [Addr.add_lit, Nat.zero_add]
      have h5 : w'.heap[g]? = some (.cells C1 28 (0, 0)) := hJ.2
      simpa [World.cell?, h5, ← Array.getElem?_toList] using hC1d q u hj
    · show 0 + (i + m) * 3 + (vs.drop (j * 3)).length ≤ C1.size
      rw [hC1s, hdl]
      omega
    · intro W3 hg3 hgr3
      exact ⟨_, rfl, ⟨hJ.1.trans (Trd.ofGrown (F := (· = g)) hgr3 fun k hk => by injection hk with hk; exact hk.symm) (fun _ _ h => h), hg3⟩, trivial⟩
  case fin2 =>
  intro vs1 W3 hJ hG
  have e0 : vs1 0 = .slice (some ⟨g, 0, none⟩) t cap := hG 0 (by decide) rfl
  have e1 : vs1 1 = .int .i64 (i : Int) := hG 1 (by decide) rfl
  have e2 : vs1 2 = .slice (some ⟨b, 0, none⟩) m m := hG 2 (by decide) rfl
  have e3 : vs1 3 = .int .i64 (m : Nat) := hG 3 (by decide) rfl
  have e4 : vs1 4 = .int .i64 ((i : Int) + (m : Int)) := hG 4 (by decide) rfl
  have e5 : vs1 5 = .slice (some ⟨g, 0 + (i + m) * 3, none⟩) (t - (i + m)) (cap - (i + m)) := hG 5 (by decide) rfl
  have e6 : vs1 6 = .slice (some ⟨g, 0, none⟩) n cap := hG 6 (by decide) rfl
  have e7 : vs1 7 = .int .i64 (j : Int) := hG 7 (by decide) rfl
  have e8 : vs1 8 = .slice (some ⟨g, 0 + j * 3, none⟩) (n - j) (cap - j) := hG 8 (by decide) rfl
  simp only [putAll, e0, e1, e2, e3, e4, e5, e6, e7, e8]
  clear hG e0 e1 e2 e3 e4 e5 e6 e7 e8
  obtain ⟨C2, hC2⟩ : ∃ C2 : Array Value, C2 = (C1.toList.take (0 + (i + m) * 3) ++ vs.drop (j * 3) ++ C1.toList.drop (0 + (i + m) * 3 + (vs.drop (j * 3)).length)).toArray := ⟨_, rfl⟩
  have hg3 : W3.heap[g]? = some (.cells C2 28 (0, 0)) := by rw [hC2]; exact hJ.2
  have hC2s : C2.size = cap * 3 := by
    rw [hC2]
    simp only [List.size_toArray, List.length_append, List.length_take, List.length_drop, Array.length_toList, hC1s, hv.len]
    omega
  go_simp
  go_wp2_with (go_big_may; first
    | (refine wpList_sliceFrom ndP.toLsP rfl rfl rfl (l := t) (r := n) (run_bounds_l _ (by omega)) (by omega) ?_)
    | (refine wpList_clearQ ndP nd1 rfl rfl rfl rfl hg3 (.inr rfl) (.inr (by rw [hC2s]; omega)) ?_; intro W4 C4 hg4 hs4 ht4 _ hgr4)
    | fail)
  go_ret
  have q4 : Trd (· = g) w9 W4 := hJ.1.trans (Trd.ofGrown (F := (· = g)) hgr4 fun k hk => by injection hk with hk; exact hk.symm) (fun _ _ h => h)
  refine ⟨_, rfl, RowQ.of hg4 (by omega) hcm (by rw [hs4, hC2s]) ?_ ?_, ?_, .inl rfl⟩
  · have h5 := ht4 (by omega)
    rw [Nat.zero_add] at h5
    rw [h5, hC2]
    show List.take _ (C1.toList.take _ ++ _ ++ C1.toList.drop _) = _
    have := rep_new (cur := cur.toList) (us := us) (ws := vs.drop (j * 3)) (Y := (cur.toList.take (i * 3) ++ us ++ cur.toList.drop (i * 3 + us.length)).drop ((i + m) * 3 + (vs.drop (j * 3)).length)) (p := i * 3) (r := m * 3) (by rw [Array.length_toList, hcs1]; omega) hu
    rw [← Nat.add_mul] at this
    have e6 : vs.take (i * 3) = cur.toList.take (i * 3) := by rw [← hct, List.take_take, Nat.min_eq_left (by omega)]
    rw [Nat.zero_add, show t * 3 = (i + m) * 3 + (vs.drop (j * 3)).length by rw [hdl, ← Nat.add_mul]; congr 1; omega, hC1, e6]
    exact this
  · intro u hu
    rcases List.mem_append.1 hu with h | h
    · rcases List.mem_append.1 h with h | h
      · exact hv.2 u (List.mem_of_mem_take h)
      · exact hu1 u h
    · exact hv.2 u (List.mem_of_mem_drop h)
  · exact ⟨q4.os.trans q9.os, q4.tape.trans q9.tape, q4.output.trans q9.output, Nat.le_trans q9.size q4.size, fun k hk hn => (q4.block k (Nat.lt_of_lt_of_le hk q9.size) fun h => hn (by rw [h]; rfl)).trans (q9.block k hk)⟩
set_option maxRecDepth 100000 in
set_option maxHeartbeats 4000000 in
theorem replaceMore_n (w : World) {n i j b m g cap : Nat} {vs us : List Value} (hv : RowQ 28 3 w (.slice (some ⟨g, 0, none⟩) n cap) n vs) (hij : i < j) (hjn : j ≤ n) (hn : n + m ≤ 1000000) (hm : 0 < m) (hb : w.heap[b]? = some (.cells us.toArray 28 (0, 0))) (hu : us.length = m * 3) (hu1 : ∀ u ∈ us, u.oneCell' = true) (hbg : b ≠ g) (hend : j < n) (hmore : j < i + m) (hroom : i + m + (n - j) ≤ cap) :
    Calls Try.prog 50 #[.slice (some ⟨g, 0, none⟩) n cap, .int .i64 i, .int .i64 j, .slice (some ⟨b, 0, none⟩) m m] w (RetRow 28 3 w (.slice (some ⟨g, 0, none⟩) n cap) (i + m + (n - j)) (vs.take (i * 3) ++ us ++ vs.drop (j * 3))) := by
  have hz0 : ((i : Int) == (j : Int)) = false := beq_eq_false_iff_ne.2 (by omega)
  have hcs := new_cells hb
  have hblt := (Array.getElem?_eq_some_iff.1 hb).1
  have hglt := hv.lt (k := g) rfl
  obtain ⟨cur, hg, hnc, hcm, hcs1, hct⟩ : ∃ cur, w.heap[g]? = some (.cells cur 28 (0, 0)) ∧ n ≤ cap ∧ cap ≤ maxLen ∧ cur.size = cap * 3 ∧ cur.toList.take (n * 3) = vs := by
    rcases hv.cases with ⟨h, _⟩ | ⟨g', cap', cur, h, h1, h2, h3, h4, h5⟩
    · cases h
    · cases h
      exact ⟨cur, h1, h2, h3, h4, h5⟩
  have hz1 : ((j : Int) == (n : Int)) = false := beq_eq_false_iff_ne.2 (by omega)
  obtain ⟨t, ht⟩ : ∃ t : Nat, t = i + m + (n - j) := ⟨_, rfl⟩
  have hti : ((i : Int) + (m : Int)) + ((n - j : Nat) : Int) = (t : Int) := by omega
  rw [← ht] at hroom ⊢
  have d : decide ((cap : Int) < (t : Int)) = false := decide_eq_false (by omega)
  have d2 : decide ((i : Int) + (m : Int) ≤ (j : Int)) = false := decide_eq_false (by omega)
  have hdl : (vs.drop (j * 3)).length = (n - j) * 3 := by rw [List.length_drop, hv.len, Nat.sub_mul]
  have htn : i + m < t := by omega
  have htb1 : i + m ≤ t := by omega
  have htb2 : t ≤ 1000000 := by omega
  have htb3 : i + m + n ≤ t + j := by omega
  have htb4 : t + j ≤ i + m + n := by omega
  clear ht
  go_enter Try.func50, Try.ntmps50
  go_upto_region 9 with (go_big_may; first
    | (refine wpList_sliceAny ndP.toLsP rfl rfl rfl (l := i) (r := j) (run_bounds_lh _ (by omega) (by omega)) ?_; intro _)
    | fail)
  refine wp_region_lnl (K := fun _ _ => True) (by kernel_rfl) (by kernel_rfl) [] (by kernel_rfl) [lEq (.slice (some ⟨g, 0, none⟩) n cap), lEq (.int .i64 (i : Int)), lEq (.slice (some ⟨g, 0, none⟩) i cap), lEq (.int .i64 (i : Nat)), lEq (.slice (some ⟨b, 0, none⟩) m m), lEq (.int .i64 (m : Nat)), lEq (.int .i64 ((i : Int) + (m : Int))), lEq (.slice (some ⟨g, 0, none⟩) n cap), lEq (.int .i64 (j : Int)), lEq (.slice (some ⟨g, 0 + j * 3, none⟩) (n - j) (cap - j)), lEq (.int .i64 ((n - j) : Nat)), lEq (.int .i64 (t : Int)), lEq (.int .i64 (t : Int))] (fun _ W => Below w.heap.size w W) (fun l A B h hb => h.trans (hb.mono h.size)) (Below.refl _ _)
    ⟨?o0, ?o1, ?o2, ?o3, ?o4, ?o5, ?o6, ?o7, ?o8, ?o9, ?o10, ?o11, ?o12, trivial⟩ ?fin
  case o0 =>
    refine LnOp.side rfl (by kernel_rfl) (fun A vs w' k hF hT hk hJ hb hu hp hd => ?_)
    have e1 : A.eval (.tmp 0) = .slice (some ⟨g, 0, none⟩) n cap := hF 0 rfl
    exact BigFrame.wp_move _ rfl ⟨_, rfl, e1, Below.refl _ _⟩
  case o1 =>
    refine LnOp.side rfl (by kernel_rfl) (fun A vs w' k hF hT hk hJ hb hu hp hd => ?_)
    have e1 : A.eval (.tmp 1) = .int .i64 (i : Int) := hF 1 rfl
    exact BigFrame.wp_move _ rfl ⟨_, rfl, e1, Below.refl _ _⟩
  case o2 =>
    refine LnOp.side rfl (by kernel_rfl) (fun A vs w' k hF hT hk hJ hb hu hp hd => ?_)
    have e1 : A.eval (.tmp 45) = .slice (some ⟨g, 0, none⟩) n cap := (hT 45 0 (by simp) rfl).trans (hd ⟨0, .data⟩ (by simp) rfl rfl)
    have e2 : A.eval (.tmp 46) = .int .i64 (i : Int) := (hT 46 1 (by simp) rfl).trans (hd ⟨1, .data⟩ (by simp) rfl rfl)
    exact wp_sliceTo ndP.toLsP rfl (e1) (congrArg some e2) (run_bounds_h _ (by omega)) ⟨_, rfl, rfl, Below.refl _ _⟩
  case o3 =>
    refine LnOp.side rfl (by kernel_rfl) (fun A vs w' k hF hT hk hJ hb hu hp hd => ?_)
    have e1 : A.eval (.tmp 47) = .slice (some ⟨g, 0, none⟩) i cap := (hT 47 2 (by simp) rfl).trans (hd ⟨2, .data⟩ (by simp) rfl rfl)
    exact wp_lenS (e := 28) rfl (by kernel_rfl) (e1) ⟨_, rfl, rfl, Below.refl _ _⟩
  case o4 =>
    refine LnOp.side rfl (by kernel_rfl) (fun A vs w' k hF hT hk hJ hb hu hp hd => ?_)
    have e1 : A.eval (.tmp 3) = .slice (some ⟨b, 0, none⟩) m m := hF 3 rfl
    exact BigFrame.wp_move _ rfl ⟨_, rfl, e1, Below.refl _ _⟩
  case o5 =>
    refine LnOp.side rfl (by kernel_rfl) (fun A vs w' k hF hT hk hJ hb hu hp hd => ?_)
    have e1 : A.eval (.tmp 49) = .slice (some ⟨b, 0, none⟩) m m := (hT 49 4 (by simp) rfl).trans (hd ⟨4, .data⟩ (by simp) rfl rfl)
    exact wp_lenS (e := 28) rfl (by kernel_rfl) (e1) ⟨_, rfl, rfl, Below.refl _ _⟩
  case o6 =>
    refine LnOp.side rfl (by kernel_rfl) (fun A vs w' k hF hT hk hJ hb hu hp hd => ?_)
    have e1 : A.eval (.tmp 48) = .int .i64 (i : Nat) := (hT 48 3 (by simp) rfl).trans (hd ⟨3, .data⟩ (by simp) rfl rfl)
    have e2 : A.eval (.tmp 50) = .int .i64 (m : Nat) := (hT 50 5 (by simp) rfl).trans (hd ⟨5, .data⟩ (by simp) rfl rfl)
    exact wp_addI rfl (e1) (e2) (by omega) (by omega) ⟨_, rfl, rfl, Below.refl _ _⟩
  case o7 =>
    refine LnOp.side rfl (by kernel_rfl) (fun A vs w' k hF hT hk hJ hb hu hp hd => ?_)
    have e1 : A.eval (.tmp 0) = .slice (some ⟨g, 0, none⟩) n cap := hF 0 rfl
    exact BigFrame.wp_move _ rfl ⟨_, rfl, e1, Below.refl _ _⟩
  case o8 =>
    refine LnOp.side rfl (by kernel_rfl) (fun A vs w' k hF hT hk hJ hb hu hp hd => ?_)
    have e1 : A.eval (.tmp 2) = .int .i64 (j : Int) := hF 2 rfl
    exact BigFrame.wp_move _ rfl ⟨_, rfl, e1, Below.refl _ _⟩
  case o9 =>
    refine LnOp.side rfl (by kernel_rfl) (fun A vs w' k hF hT hk hJ hb hu hp hd => ?_)
    have e1 : A.eval (.tmp 52) = .slice (some ⟨g, 0, none⟩) n cap := (hT 52 7 (by simp) rfl).trans (hd ⟨7, .data⟩ (by simp) rfl rfl)
    have e2 : A.eval (.tmp 53) = .int .i64 (j : Int) := (hT 53 8 (by simp) rfl).trans (hd ⟨8, .data⟩ (by simp) rfl rfl)
    exact wp_sliceFrom ndP.toLsP rfl (e1) (congrArg some e2) rfl (run_bounds_l _ (by omega)) (by omega) ⟨_, rfl, rfl, Below.refl _ _⟩
  case o10 =>
    refine LnOp.side rfl (by kernel_rfl) (fun A vs w' k hF hT hk hJ hb hu hp hd => ?_)
    have e1 : A.eval (.tmp 54) = .slice (some ⟨g, 0 + j * 3, none⟩) (n - j) (cap - j) := (hT 54 9 (by simp) rfl).trans (hd ⟨9, .data⟩ (by simp) rfl rfl)
    exact wp_lenS (e := 28) rfl (by kernel_rfl) (e1) ⟨_, rfl, rfl, Below.refl _ _⟩
  case o11 =>
    refine LnOp.side rfl (by kernel_rfl) (fun A vs w' k hF hT hk hJ hb hu hp hd => ?_)
    have e1 : A.eval (.tmp 51) = .int .i64 ((i : Int) + (m : Int)) := (hT 51 6 (by simp) rfl).trans (hd ⟨6, .data⟩ (by simp) rfl rfl)
    have e2 : A.eval (.tmp 55) = .int .i64 ((n - j) : Nat) := (hT 55 10 (by simp) rfl).trans (hd ⟨10, .data⟩ (by simp) rfl rfl)
    exact wp_addI rfl (e1) (e2) (by omega) (by omega) ⟨_, rfl, congrArg (Value.int .i64) hti, Below.refl _ _⟩
  case o12 =>
    refine LnOp.side rfl (by kernel_rfl) (fun A vs w' k hF hT hk hJ hb hu hp hd => ?_)
    have e1 : A.eval (.tmp 56) = .int .i64 (t : Int) := (hT 56 11 (by simp) rfl).trans (hd ⟨11, .data⟩ (by simp) rfl rfl)
    exact BigFrame.wp_assign _ rfl ⟨_, rfl, e1, Below.refl _ _⟩
  case fin =>
  intro vs1 w9 q9 hG
  have e0 : vs1 0 = .slice (some ⟨g, 0, none⟩) n cap := hG 0 (by decide) rfl
  have e1 : vs1 1 = .int .i64 (i : Int) := hG 1 (by decide) rfl
  have e2 : vs1 2 = .slice (some ⟨g, 0, none⟩) i cap := hG 2 (by decide) rfl
  have e3 : vs1 3 = .int .i64 (i : Nat) := hG 3 (by decide) rfl
  have e4 : vs1 4 = .slice (some ⟨b, 0, none⟩) m m := hG 4 (by decide) rfl
  have e5 : vs1 5 = .int .i64 (m : Nat) := hG 5 (by decide) rfl
  have e6 : vs1 6 = .int .i64 ((i : Int) + (m : Int)) := hG 6 (by decide) rfl
  have e7 : vs1 7 = .slice (some ⟨g, 0, none⟩) n cap := hG 7 (by decide) rfl
  have e8 : vs1 8 = .int .i64 (j : Int) := hG 8 (by decide) rfl
  have e9 : vs1 9 = .slice (some ⟨g, 0 + j * 3, none⟩) (n - j) (cap - j) := hG 9 (by decide) rfl
  have e10 : vs1 10 = .int .i64 ((n - j) : Nat) := hG 10 (by decide) rfl
  have e11 : vs1 11 = .int .i64 (t : Int) := hG 11 (by decide) rfl
  have e12 : vs1 12 = .int .i64 (t : Int) := hG 12 (by decide) rfl
  simp only [putAll, e0, e1, e2, e3, e4, e5, e6, e7, e8, e9, e10, e11, e12]
  clear hG e0 e1 e2 e3 e4 e5 e6 e7 e8 e9 e10 e11 e12
  replace hv := hv.below q9
  replace hb := (q9.block b hblt).trans hb
  replace hg := (q9.block g hglt).trans hg
  replace hcs := new_cells hb
  replace hblt := Nat.lt_of_lt_of_le hblt q9.size
  replace hglt := Nat.lt_of_lt_of_le hglt q9.size
  go_simp
  have hov : ∀ off k kc, (callFunc 64 #[.slice (some ⟨g, off, none⟩) k kc, .slice (some ⟨b, 0, none⟩) m m]).run Try.prog w9 = .ok (.value (.bool false)) w9 := fun off k kc =>
    overlaps_apart2 (Tb := 4) ndP.toLsP Try.func64 (by kernel_rfl) rfl (by kernel_rfl) (by kernel_rfl) hb hg hbg (by rw [hu]; omega)
  go_upto_region 22 with (go_big_may; first
    | (refine wpList_sliceTo ndP.toLsP rfl rfl rfl (r := t) (run_bounds_h _ (by omega)) ?_)
    | (refine wpList_sliceFrom ndP.toLsP rfl rfl rfl (l := i + m) (r := t) (run_bounds_l' _ (by omega) (by omega)) (by omega) ?_)
    | fail)
  refine wp_region_lnl (K := fun _ _ => True) (by kernel_rfl) (by kernel_rfl) [9] (by kernel_rfl) [lEq (.slice (some ⟨g, 0, none⟩) t cap), lEq (.int .i64 (i : Int)), lEq (.slice (some ⟨b, 0, none⟩) m m), lEq (.int .i64 (m : Nat)), lEq (.int .i64 ((i : Int) + (m : Int))), lEq (.slice (some ⟨g, 0 + (i + m) * 3, none⟩) (t - (i + m)) (cap - (i + m))), lEq (.slice (some ⟨g, 0, none⟩) n cap), lEq (.int .i64 (j : Int)), lEq (.slice (some ⟨g, 0 + j * 3, none⟩) (n - j) (cap - j)), lAny] (fun l W => Trd (· = g) w9 W ∧ W.heap[g]? = some (.cells (match l with | [] => cur | _ :: _ => (cur.toList.take (0 + (i + m) * 3) ++ vs.drop (j * 3) ++ cur.toList.drop (0 + (i + m) * 3 + (vs.drop (j * 3)).length)).toArray) 28 (0, 0))) (fun l A B h hb => ⟨h.1.trans (Trd.of (F := (· = g)) hb) (fun _ _ h => h), (hb.block _ (Array.getElem?_eq_some_iff.1 h.2).1).trans h.2⟩) ⟨Trd.refl _ _, hg⟩
    ⟨?o0, ?o1, ?o2, ?o3, ?o4, ?o5, ?o6, ?o7, ?o8, ?o9, trivial⟩ ?fin2
  case o0 =>
    refine LnOp.side rfl (by kernel_rfl) (fun A vs w' k hF hT hk hJ hb hu hp hd => ?_)
    have e1 : A.eval (.tmp 12) = .slice (some ⟨g, 0, none⟩) t cap := hF 12 rfl
    exact BigFrame.wp_move _ rfl ⟨_, rfl, e1, Below.refl _ _⟩
  case o1 =>
    refine LnOp.side rfl (by kernel_rfl) (fun A vs w' k hF hT hk hJ hb hu hp hd => ?_)
    have e1 : A.eval (.tmp 1) = .int .i64 (i : Int) := hF 1 rfl
    exact BigFrame.wp_move _ rfl ⟨_, rfl, e1, Below.refl _ _⟩
  case o2 =>
    refine LnOp.side rfl (by kernel_rfl) (fun A vs w' k hF hT hk hJ hb hu hp hd => ?_)
    have e1 : A.eval (.tmp 3) = .slice (some ⟨b, 0, none⟩) m m := hF 3 rfl
    exact BigFrame.wp_move _ rfl ⟨_, rfl, e1, Below.refl _ _⟩
  case o3 =>
    refine LnOp.side rfl (by kernel_rfl) (fun A vs w' k hF hT hk hJ hb hu hp hd => ?_)
    have e1 : A.eval (.tmp 123) = .slice (some ⟨b, 0, none⟩) m m := (hT 123 2 (by simp) rfl).trans (hd ⟨2, .data⟩ (by simp) rfl rfl)
    exact wp_lenS (e := 28) rfl (by kernel_rfl) (e1) ⟨_, rfl, rfl, Below.refl _ _⟩
  case o4 =>
    refine LnOp.side rfl (by kernel_rfl) (fun A vs w' k hF hT hk hJ hb hu hp hd => ?_)
    have e1 : A.eval (.tmp 122) = .int .i64 (i : Int) := (hT 122 1 (by simp) rfl).trans (hd ⟨1, .data⟩ (by simp) rfl rfl)
    have e2 : A.eval (.tmp 124) = .int .i64 (m : Nat) := (hT 124 3 (by simp) rfl).trans (hd ⟨3, .data⟩ (by simp) rfl rfl)
    exact wp_addI rfl (e1) (e2) (by omega) (by omega) ⟨_, rfl, rfl, Below.refl _ _⟩
  case o5 =>
    refine LnOp.side rfl (by kernel_rfl) (fun A vs w' k hF hT hk hJ hb hu hp hd => ?_)
    have e1 : A.eval (.tmp 121) = .slice (some ⟨g, 0, none⟩) t cap := (hT 121 0 (by simp) rfl).trans (hd ⟨0, .data⟩ (by simp) rfl rfl)
    have e2 : A.eval (.tmp 125) = .int .i64 ((i : Int) + (m : Int)) := (hT 125 4 (by simp) rfl).trans (hd ⟨4, .data⟩ (by simp) rfl rfl)
    exact wp_sliceFrom ndP.toLsP rfl (e1) (congrArg some e2) rfl (run_bounds_l' _ (by omega) (by omega)) (by omega) ⟨_, rfl, rfl, Below.refl _ _⟩
  case o6 =>
    refine LnOp.side rfl (by kernel_rfl) (fun A vs w' k hF hT hk hJ hb hu hp hd => ?_)
    have e1 : A.eval (.tmp 0) = .slice (some ⟨g, 0, none⟩) n cap := hF 0 rfl
    exact BigFrame.wp_move _ rfl ⟨_, rfl, e1, Below.refl _ _⟩
  case o7 =>
    refine LnOp.side rfl (by kernel_rfl) (fun A vs w' k hF hT hk hJ hb hu hp hd => ?_)
    have e1 : A.eval (.tmp 2) = .int .i64 (j : Int) := hF 2 rfl
    exact BigFrame.wp_move _ rfl ⟨_, rfl, e1, Below.refl _ _⟩
  case o8 =>
    refine LnOp.side rfl (by kernel_rfl) (fun A vs w' k hF hT hk hJ hb hu hp hd => ?_)
    have e1 : A.eval (.tmp 127) = .slice (some ⟨g, 0, none⟩) n cap := (hT 127 6 (by simp) rfl).trans (hd ⟨6, .data⟩ (by simp) rfl rfl)
    have e2 : A.eval (.tmp 128) = .int .i64 (j : Int) := (hT 128 7 (by simp) rfl).trans (hd ⟨7, .data⟩ (by simp) rfl rfl)
    exact wp_sliceFrom ndP.toLsP rfl (e1) (congrArg some e2) rfl (run_bounds_l' _ (by omega) (by omega)) (by omega) ⟨_, rfl, rfl, Below.refl _ _⟩
  case o9 =>
    refine LnOp.line 0 rfl rfl (fun A va w' hF hT hJ hu hd => ?_)
    have e1 : A.eval (.tmp 126) = .slice (some ⟨g, 0 + (i + m) * 3, none⟩) (t - (i + m)) (cap - (i + m)) := (hT 126 5 (by simp) rfl).trans (hd ⟨5, .data⟩ (by simp) rfl rfl)
    have e2 : A.eval (.tmp 129) = .slice (some ⟨g, 0 + j * 3, none⟩) (n - j) (cap - j) := (hT 129 8 (by simp) rfl).trans (hd ⟨8, .data⟩ (by simp) rfl rfl)
    refine wp_copyRaw ndP.toLsP rfl e1 e2 hJ.2 (cs := vs.drop (j * 3)) (by rw [hdl, Nat.min_eq_left (by omega)]) (fun q u hj => ?_) (fun u hu => hv.2 u (List.mem_of_mem_drop hu)) ?_ ?_
    · rw [List.getElem?_drop, ← hct, List.getElem?_take] at hj
      split at hj
      · rw [Addr.add_lit, Nat.zero_add]
        have h5 : w'.heap[g]? = some (.cells cur 28 (0, 0)) := hJ.2
        simpa [World.cell?, h5, ← Array.getElem?_toList] using hj
      · cases hj
    · show 0 + (i + m) * 3 + (vs.drop (j * 3)).length ≤ cur.size
      rw [hcs1, hdl]
      omega
    · intro W3 hg3 hgr3
      exact ⟨_, rfl, ⟨hJ.1.trans (Trd.ofGrown (F := (· = g)) hgr3 fun k hk => by injection hk with hk; exact hk.symm) (fun _ _ h => h), hg3⟩, trivial⟩
  case fin2 =>
  intro vs1 W3 hJ hG
  have e0 : vs1 0 = .slice (some ⟨g, 0, none⟩) t cap := hG 0 (by decide) rfl
  have e1 : vs1 1 = .int .i64 (i : Int) := hG 1 (by decide) rfl
  have e2 : vs1 2 = .slice (some ⟨b, 0, none⟩) m m := hG 2 (by decide) rfl
  have e3 : vs1 3 = .int .i64 (m : Nat) := hG 3 (by decide) rfl
  have e4 : vs1 4 = .int .i64 ((i : Int) + (m : Int)) := hG 4 (by decide) rfl
  have e5 : vs1 5 = .slice (some ⟨g, 0 + (i + m) * 3, none⟩) (t - (i + m)) (cap - (i + m)) := hG 5 (by decide) rfl
  have e6 : vs1 6 = .slice (some ⟨g, 0, none⟩) n cap := hG 6 (by decide) rfl
  have e7 : vs1 7 = .int .i64 (j : Int) := hG 7 (by decide) rfl
  have e8 : vs1 8 = .slice (some ⟨g, 0 + j * 3, none⟩) (n - j) (cap - j) := hG 8 (by decide) rfl
  simp only [putAll, e0, e1, e2, e3, e4, e5, e6, e7, e8]
  clear hG e0 e1 e2 e3 e4 e5 e6 e7 e8
  obtain ⟨C1, hC1⟩ : ∃ C1 : Array Value, C1 = (cur.toList.take (0 + (i + m) * 3) ++ vs.drop (j * 3) ++ cur.toList.drop (0 + (i + m) * 3 + (vs.drop (j * 3)).length)).toArray := ⟨_, rfl⟩
  have hg3 : W3.heap[g]? = some (.cells C1 28 (0, 0)) := by rw [hC1]; exact hJ.2
  have hC1s : C1.size = cap * 3 := by
    rw [hC1]
    simp only [List.size_toArray, List.length_append, List.length_take, List.length_drop, Array.length_toList, hcs1, hv.len]
    omega
  have hcs3 : ∀ (q : Nat) (u : Value), us[q]? = some u → W3.cell? (Addr.add ⟨b, 0, none⟩ q) = some u := fun q u hj => by
    have := hcs q u hj
    rw [Addr.add_lit] at this ⊢
    exact (cell_keep (hJ.1.block b hblt hbg) _).trans this
  go_simp
  go_wp2_with (go_big_may; first
    | (refine wpList_sliceFrom ndP.toLsP rfl rfl rfl (l := i) (r := t) (run_bounds_l _ (by omega)) (by omega) ?_)
    | (refine wpList_copyRaw ndP.toLsP rfl rfl rfl rfl hg3 (cs := us) (by rw [Nat.min_eq_left (by omega)]; exact hu) hcs3 hu1 (by rw [hC1s, hu]; omega) ?_; intro W4 hg4 hgr4)
    | fail)
  go_ret
  have q4 : Trd (· = g) w9 W4 := hJ.1.trans (Trd.ofGrown (F := (· = g)) hgr4 fun k hk => by injection hk with hk; exact hk.symm) (fun _ _ h => h)
  refine ⟨_, rfl, RowQ.of hg4 (by omega) hcm ?_ ?_ ?_, ?_, .inl rfl⟩
  · simp only [List.size_toArray, List.length_append, List.length_take, List.length_drop, Array.length_toList, hC1s, hu]
    omega
  · have := rep_cells (cur := cur.toList) (us := us) (ws := vs.drop (j * 3)) (Y := cur.toList.drop ((i + m) * 3 + (vs.drop (j * 3)).length)) (p := i * 3) (r := m * 3) (by rw [Array.length_toList, hcs1]; omega) hu
    rw [← Nat.add_mul] at this
    have e6 : vs.take (i * 3) = cur.toList.take (i * 3) := by rw [← hct, List.take_take, Nat.min_eq_left (by omega)]
    rw [show t * 3 = (i + m) * 3 + (vs.drop (j * 3)).length by rw [hdl, ← Nat.add_mul]; congr 1; omega, hC1, e6]
    simp only [Nat.zero_add] at this ⊢
    exact this
  · intro u hu
    rcases List.mem_append.1 hu with h | h
    · rcases List.mem_append.1 h with h | h
      · exact hv.2 u (List.mem_of_mem_take h)
      · exact hu1 u h
    · exact hv.2 u (List.mem_of_mem_drop h)
  · exact ⟨q4.os.trans q9.os, q4.tape.trans q9.tape, q4.output.trans q9.output, Nat.le_trans q9.size q4.size, fun k hk hn => (q4.block k (Nat.lt_of_lt_of_le hk q9.size) fun h => hn (by rw [h]; rfl)).trans (q9.block k hk)⟩
theorem replace_n (w : World) {v : Value} {n i j b m : Nat} {jz : Int} {vs us : List Value} (hv : RowQ 28 3 w v n vs) (hj : jz = (j : Int)) (hij : i < j) (hjn : j ≤ n) (hn : n + m ≤ 1000000) (hm : 0 < m) (hb : w.heap[b]? = some (.cells us.toArray 28 (0, 0))) (hu : us.length = m * 3) (hu1 : ∀ u ∈ us, u.oneCell' = true) (hbg : v.ownBlock ≠ some b) (hne : i + m ≠ j) :
    Calls Try.prog 50 #[v, .int .i64 i, .int .i64 jz, .slice (some ⟨b, 0, none⟩) m m] w (RetRow 28 3 w v (i + m + (n - j)) (vs.take (i * 3) ++ us ++ vs.drop (j * 3))) := by
  subst hj
  rcases hv.cases with ⟨_, h2, _⟩ | ⟨g, cap, cur, rfl, _, h3, _⟩
  · omega
  · have hbg' : b ≠ g := fun e => hbg (by rw [e]; rfl)
    rcases Nat.lt_or_ge j n with h | h
    · rcases Nat.lt_or_ge (i + m) j with h4 | h4
      · exact replaceLess_n w hv hij hjn hn hm hb hu hu1 hbg' h h4
      · rcases Nat.lt_or_ge cap (i + m + (n - j)) with h5 | h5
        · exact replaceGrow_n w hv hij hjn hn hm hb hu hu1 hbg' h h5
        · exact replaceMore_n w hv hij hjn hn hm hb hu hu1 hbg' h (by omega) h5
    · rcases Nat.lt_or_ge (i + m) n with h4 | h4
      · exact replaceEndC_n w hv hij hjn hn hm hb hu hu1 hbg' (by omega) h4
      · exact replaceEnd_n w hv hij hjn hn hm hb hu hu1 hbg' (by omega) h4
end Go.Proofs.Yticngbgjfdcnhaa
namespace Go.Proofs.Yticngbgjfdcnhaa
open Go.RowKit
theorem wp_allocN {o : Oper} {a : Act} {K : Act → World → Prop} {Q : Exit → Act → World → Prop} {w : World} (ho : o.op = .alloc 28) (h : ∀ w', Below w.heap.size w w' → w'.heap[w.heap.size]? = some zNode → K (a.put o.dst (.pointer (some ⟨w.heap.size, 0, none⟩))) w') : o.wp Try.prog a w K Q := by
  obtain ⟨i, z, hi, hz, hsz, _, _⟩ := ndP.all
  have hz2 : z = .agg #[.slice none 0 0, .slice none 0 0, .slice none 0 0] := by
    have h1 : (Try.prog.info? 28).bind (·.zero) = some (.agg #[.slice none 0 0, .slice none 0 0, .slice none 0 0]) := by kernel_rfl
    rw [hi] at h1
    simp only [Option.bind_some, hz] at h1
    injection h1
  subst hz2
  have hrun : (execOp a.eval o).run Try.prog w = .ok (.value (.pointer (some ⟨w.heap.size, 0, none⟩))) (w.alloc zNode) := by
    simp [execOp, ho, newVar, zeroValue, typeInfo, hi, hz, zNode, Value.cells, go_sem]
  unfold Oper.wp
  rw [hrun]
  exact h _ ((Below.refl _ _).alloc (Nat.le_refl _) _) (by simp only [World.alloc, Array.getElem?_push_size])
end Go.Proofs.Yticngbgjfdcnhaa
namespace Go.Proofs.Yticngbgjfdcnhaa
open Go.RowKit
theorem clone_any (w : World) {B : Nat} {ad : Option Addr} {n c : Nat} {xs : List UInt8} (hr : Rd B w (.slice ad n c) xs) (hB : B ≤ w.heap.size) (hx : xs.length ≤ 1000000) :
    Calls Try.prog 21 #[.slice ad n c] w fun e w' => ∃ ad' k c', e = .returned (.slice ad' k c') ∧ Fresh 5 w w' (.slice ad' k c') xs := by
  have he := fun (w : World) (ad : Option Addr) (n c : Nat) => Lib.run_eql_slice_nil (P := Try.prog) w 32 5 ad n c 0 0 byP.hT
  obtain ⟨rfl, _, _⟩ := hr.len
  cases ad with
  | none =>
    have hr' := hr
    rcases hr with ⟨_, _, h, _, rfl⟩ | ⟨_, _, _, h, _⟩
    · go_enter Try.func21, Try.ntmps21
      go_wp2
      go_ret
      exact ⟨_, _, _, rfl, Fresh.nil _ _⟩
    · cases h
  | some p =>
    go_enter Try.func21, Try.ntmps21
    go_wp2_with (first
      | (refine wpList_build byP rfl rfl [] (by kernel_rfl) rfl (by simp) ?_; intro g k1 w1 hF)
      | (at_builtin; refine wpList_append byP rfl rfl rfl hF.2 rfl (hr.below (hF.1.mono hB)) hF.1.size ?_ ?hlen; intro ad' k' c' w2 hO hg hb))
    case hlen => simp; omega
    go_ret
    exact ⟨_, _, _, rfl, hF.1.trans hb, hO⟩
end Go.Proofs.Yticngbgjfdcnhaa
namespace Go.Proofs.Yticngbgjfdcnhaa
open Go.RowKit
set_option maxHeartbeats 1000000 in
theorem alone_any (w : World) {S : Nat → Prop} {A : Option Addr} {n c : Nat} {s : Int} {g : Bool} {vs : List UInt8} (hv : RdS S w (.slice A n c) vs) :
    Calls Try.prog 54 #[.agg #[.int .i64 s, .bool g, .slice A n c]] w fun e w' => e = .returned (.bool (decide (mayV ⟨s, g, vs⟩))) ∧ Below w.heap.size w w' := by
  obtain ⟨rfl, hnc, hcm⟩ := hv.len
  have hlm : vs.length ≤ 9223372036854775807 := by unfold maxLen at hcm; omega
  cases g
  ·
    by_cases h1 : 1 ≤ s
    · have d1 : decide ((1 : Int) ≤ s) = true := decide_eq_true h1
      by_cases h2 : s < 2147483648
      · have d2 : decide (s ≤ (2147483647 : Int)) = true := decide_eq_true (by omega)
        by_cases h3 : vs.length ≤ 32
        · have d3 : decide ((vs.length : Int) ≤ 32) = true := decide_eq_true (by omega)
          have hk := Lib.hid (show decide (mayV ⟨s, false, vs⟩) = true from decide_eq_true ⟨h1, h2, h3, by simp⟩)
          clear h1 h2 h3
          go_enter Try.func54, Try.ntmps54
          go_wp2
          go_ret
          exact ⟨by rw [hk.out]; rfl, (Below.refl _ _).alloc (Nat.le_refl _) _⟩
        · have d3 : decide ((vs.length : Int) ≤ 32) = false := decide_eq_false (by omega)
          have hk := Lib.hid (show decide (mayV ⟨s, false, vs⟩) = false from decide_eq_false (fun h => h3 h.2.2.1))
          clear h1 h2 h3
          go_enter Try.func54, Try.ntmps54
          go_wp2
          go_ret
          exact ⟨by rw [hk.out]; rfl, (Below.refl _ _).alloc (Nat.le_refl _) _⟩
      · have d2 : decide (s ≤ (2147483647 : Int)) = false := decide_eq_false (by omega)
        have hk := Lib.hid (show decide (mayV ⟨s, false, vs⟩) = false from decide_eq_false (fun h => h2 h.2.1))
        clear h1 h2
        go_enter Try.func54, Try.ntmps54
        go_wp2
        go_ret
        exact ⟨by rw [hk.out]; rfl, (Below.refl _ _).alloc (Nat.le_refl _) _⟩
    · have d1 : decide ((1 : Int) ≤ s) = false := decide_eq_false h1
      have hk := Lib.hid (show decide (mayV ⟨s, false, vs⟩) = false from decide_eq_false (fun h => h1 h.1))
      clear h1
      go_enter Try.func54, Try.ntmps54
      go_wp2
      go_ret
      exact ⟨by rw [hk.out]; rfl, (Below.refl _ _).alloc (Nat.le_refl _) _⟩
  · by_cases h4 : 0 < vs.length
    · have hk := Lib.hid (show decide (mayV ⟨s, true, vs⟩) = false from decide_eq_false (fun h => by have : vs.length = 0 := h.2.2.2 rfl; omega))
      go_enter Try.func54, Try.ntmps54
      go_wp2
      go_ret
      exact ⟨by rw [hk.out]; rfl, (Below.refl _ _).alloc (Nat.le_refl _) _⟩
    ·
      by_cases h1 : 1 ≤ s
      · have d1 : decide ((1 : Int) ≤ s) = true := decide_eq_true h1
        by_cases h2 : s < 2147483648
        · have d2 : decide (s ≤ (2147483647 : Int)) = true := decide_eq_true (by omega)
          by_cases h3 : vs.length ≤ 32
          · have d3 : decide ((vs.length : Int) ≤ 32) = true := decide_eq_true (by omega)
            have hk := Lib.hid (show decide (mayV ⟨s, true, vs⟩) = true from decide_eq_true ⟨h1, h2, h3, fun _ => by show vs.length = 0; omega⟩)
            clear h1 h2 h3
            go_enter Try.func54, Try.ntmps54
            go_wp2
            go_ret
            exact ⟨by rw [hk.out]; rfl, (Below.refl _ _).alloc (Nat.le_refl _) _⟩
          · have d3 : decide ((vs.length : Int) ≤ 32) = false := decide_eq_false (by omega)
            have hk := Lib.hid (show decide (mayV ⟨s, true, vs⟩) = false from decide_eq_false (fun h => h3 h.2.2.1))
            clear h1 h2 h3
            go_enter Try.func54, Try.ntmps54
            go_wp2
            go_ret
            exact ⟨by rw [hk.out]; rfl, (Below.refl _ _).alloc (Nat.le_refl _) _⟩
        · have d2 : decide (s ≤ (2147483647 : Int)) = false := decide_eq_false (by omega)
          have hk := Lib.hid (show decide (mayV ⟨s, true, vs⟩) = false from decide_eq_false (fun h => h2 h.2.1))
          clear h1 h2
          go_enter Try.func54, Try.ntmps54
          go_wp2
          go_ret
          exact ⟨by rw [hk.out]; rfl, (Below.refl _ _).alloc (Nat.le_refl _) _⟩
      · have d1 : decide ((1 : Int) ≤ s) = false := decide_eq_false h1
        have hk := Lib.hid (show decide (mayV ⟨s, true, vs⟩) = false from decide_eq_false (fun h => h1 h.1))
        clear h1
        go_enter Try.func54, Try.ntmps54
        go_wp2
        go_ret
        exact ⟨by rw [hk.out]; rfl, (Below.refl _ _).alloc (Nat.le_refl _) _⟩
set_option maxRecDepth 100000 in
set_option maxHeartbeats 2000000 in
theorem chCheck_any (w : World) {S : Nat → Prop} {a : Option Addr} {n c : Nat} {l : List Ver} (hl : RdL Elt.ver S w (.slice a n c) l) :
    Calls Try.prog 38 #[.slice a n c] w fun e w' => e = .returned (.bool (decide (okV l))) ∧ Below w.heap.size w w' := by
  obtain ⟨rfl, hnc, hcm⟩ := hl.len
  have hlm : l.length ≤ 9223372036854775807 := by unfold maxLen at hcm; omega
  have q := Below.refl w.heap.size w
  go_enter Try.func38, Try.ntmps38
  go_upto_region 3 with (fail)
  go_loopw [3, 8] (fun lv iv wr => ∃ (k : Nat) (z : Int), iv = .int .i64 k ∧ lv = .int .i64 z ∧ k ≤ l.length ∧ (k = 0 → z = 0) ∧ (∀ h : k - 1 < l.length, 0 < k → z = l[k - 1].stamp) ∧ (∀ i (h : i < l.length), i < k → mayV l[i] ∧ (0 < i → l[i - 1].stamp < l[i].stamp)) ∧ Below w.heap.size w wr)
    (fun _ i _ => l.length - (intOf i).toNat)
  case atStart => exact ⟨0, 0, rfl, rfl, Nat.zero_le _, fun _ => rfl, fun _ h => absurd h (Nat.lt_irrefl _), fun i _ h => by omega, q⟩
  case round =>
    clear q
    obtain ⟨k, z, rfl, rfl, hkl, hz0, hz1, hok, q⟩ := hrel
    rcases Nat.lt_or_ge k l.length with hlt | hge
    · have hl2 := hl.below q
      obtain ⟨b, off, A, C, rfl, hb, c0, c1, c2, hv, hi, hn1, hn2⟩ := hl2.ver k hlt
      by_cases hs : l[k].stamp ≤ z
      · have hno : decide (okV l) = false := decide_eq_false fun h => by
          rcases Nat.eq_zero_or_pos k with h0 | h0
          · have := (h k hlt).1.1
            have := hz0 h0
            omega
          · have h1 := (h k hlt).2 h0
            have h2 := hz1 (by omega) h0
            omega
        have HK := Lib.hid hno
        have dS : decide (l[k].stamp ≤ z) = true := decide_eq_true hs
        clear hno hok hz0 hz1 hs
        go_wp2_with fail
        go_ret
        exact ⟨by rw [HK.out]; rfl, q.alloc q.size _⟩
      · have dS : decide (l[k].stamp ≤ z) = false := decide_eq_false hs
        go_wp2_with fail
        have hT := TriV.new wr 44 (.int .i64 l[k].stamp) (.bool l[k].gone) (.slice A l[k].value.length C)
        have hq0 : Below wr.heap.size wr (wr.alloc (.cells #[.int .i64 l[k].stamp, .bool l[k].gone, .slice A l[k].value.length C] 44)) := (Below.refl _ _).alloc (Nat.le_refl _) _
        generalize hW : wr.alloc (.cells #[.int .i64 l[k].stamp, .bool l[k].gone, .slice A l[k].value.length C] 44) = W at hT hq0 ⊢
        clear hW
        refine (alone_any _ (hv.below hq0)).mono ?_
        rintro e w1 ⟨rfl, hb1⟩
        have q1 := q.trans (hq0.mono q.size)
        replace q1 := q1.trans (hb1.mono q1.size)
        replace hT := hT.below hb1 hT.lt
        have t0 := hT.cell0
        clear c0 c1 c2 hv hb1 hq0 hT
        by_cases hm : mayV l[k]
        · rw [show decide (mayV ⟨l[k].stamp, l[k].gone, l[k].value⟩) = true from decide_eq_true hm]
          have hok' : ∀ i (h : i < l.length), i < k + 1 → mayV l[i] ∧ (0 < i → l[i - 1].stamp < l[i].stamp) := fun i h h1 => by
            rcases Nat.lt_or_ge i k with h2 | h2
            · exact hok i h h2
            · obtain rfl : i = k := by omega
              refine ⟨hm, fun h0 => ?_⟩
              have h3 := hz1 (by omega) h0
              omega
          have HK := Lib.hid hok'
          clear hok hok' hm hz0 hz1 hs
          go_wp2_with fail
          go_roundw
          case rel => exact ⟨k + 1, l[k].stamp, by go_num, rfl, by omega, fun h => by omega, fun h _ => by simp, HK.out, q1⟩
          case measure => simp [intOf]; omega
        · have hk := Lib.hid (show decide (okV l) = false from decide_eq_false (fun h => hm (h k hlt).1))
          rw [show decide (mayV ⟨l[k].stamp, l[k].gone, l[k].value⟩) = false from decide_eq_false hm]
          clear hok hm hz0 hz1 hs
          go_wp2_with fail
          go_ret
          exact ⟨by rw [hk.out]; rfl, q1⟩
    · obtain rfl : k = l.length := by omega
      have hk := Lib.hid (show decide (okV l) = true from decide_eq_true (fun i h => hok i h h))
      clear hok hz0 hz1
      go_wp2_with fail
      go_ret
      exact ⟨by rw [hk.out]; rfl, q⟩
end Go.Proofs.Yticngbgjfdcnhaa
namespace Go.Proofs.Yticngbgjfdcnhaa
open Go.RowKit
set_option maxRecDepth 100000 in
set_option maxHeartbeats 1000000 in
theorem search_any (w : World) {n : Nat} (F : FuncId) (caps : Array Value) (hE : Enters Try.prog F) (hn : n ≤ 1000000) (m : Nat) (hm : m ≤ n)
    (hF : ∀ (W : World) (i : Nat), i < n → Below w.heap.size w W → Calls Try.prog F (#[.int .i64 i] ++ caps) W fun e W' => e = .returned (.bool (decide (m ≤ i))) ∧ Below w.heap.size W W') :
    Calls Try.prog 77 #[.int .i64 n, .func (.func F) #[] caps] w fun e w' => e = .returned (.int .i64 m) ∧ Below w.heap.size w w' := by
  have q := Below.refl w.heap.size w
  have hEE := hE
  unfold Enters at hEE
  go_enter Try.func77, Try.ntmps77
  go_upto_region 2 with (fail)
  go_loopw [5, 6] (fun iv jv wr => ∃ (i j : Nat), iv = .int .i64 i ∧ jv = .int .i64 j ∧ i ≤ m ∧ m ≤ j ∧ j ≤ n ∧ Below w.heap.size w wr)
    (fun i j _ => (intOf j).toNat - (intOf i).toNat)
  case atStart => exact ⟨0, n, rfl, rfl, Nat.zero_le _, hm, Nat.le_refl _, q⟩
  case round =>
    clear q
    obtain ⟨i, j, rfl, rfl, him, hmj, hjn, q⟩ := hrel
    rcases Nat.lt_or_ge i j with hlt | hge
    · obtain ⟨h, hh⟩ : ∃ h : Nat, h = (i + j) / 2 := ⟨_, rfl⟩
      have e : ((i : Int) + (j : Int)) / 2 = (h : Int) := by omega
      have hih : i ≤ h := by omega
      have hhj : h < j := by omega
      clear hh
      go_wp2_with fail
      clear e
      refine (hF wr h (by omega) q).mono ?_
      rintro e w1 ⟨rfl, hb1⟩
      have q1 := q.trans hb1
      clear q hb1
      rcases Nat.lt_or_ge h m with h1 | h1
      · rw [show decide (m ≤ h) = false from decide_eq_false (by omega)]
        go_wp2_with fail
        go_roundw
        case rel => exact ⟨h + 1, j, by go_num, rfl, by omega, hmj, hjn, q1⟩
        case measure => simp [intOf]; omega
      · rw [show decide (m ≤ h) = true from decide_eq_true h1]
        go_wp2_with fail
        go_roundw
        case rel => exact ⟨i, h, rfl, rfl, him, by omega, by omega, q1⟩
        case measure => simp [intOf]; omega
    · obtain rfl : i = m := by omega
      go_wp2_with fail
      go_ret
      exact ⟨rfl, q⟩
set_option maxRecDepth 100000 in
set_option maxHeartbeats 1000000 in
theorem upTo1_any (w : World) {S : Nat → Prop} {a : Option Addr} {n c : Nat} {l : List Ver} {s : Int} (hl : RdL Elt.ver S w (.slice a n c) l) (b1 b2 i : Nat) (hi : i < l.length)
    (h1 : w.cell? ⟨b1, 0, none⟩ = some (.slice a n c)) (h2 : w.cell? ⟨b2, 0, none⟩ = some (.int .i64 s)) :
    Calls Try.prog 78 #[.int .i64 i, .pointer (some ⟨b1, 0, none⟩), .pointer (some ⟨b2, 0, none⟩)] w fun e w' => e = .returned (.bool (decide (s < l[i].stamp))) ∧ Below w.heap.size w w' := by
  obtain ⟨rfl, hnc, hcm⟩ := hl.len
  have hlm : l.length ≤ 9223372036854775807 := by unfold maxLen at hcm; omega
  obtain ⟨b, off, A, C, rfl, hb, c0, c1, c2, hv, hi2, hn1, hn2⟩ := hl.ver i hi
  go_enter Try.func78, Try.ntmps78
  go_upto_region 1 with (fail)
  go_quiet (fail)
  go_wp2_with fail
  go_ret
  exact ⟨rfl, Below.drewN (Below.refl _ _) _⟩
theorem cell_new1 (w : World) (t : TypeId) (v : Value) : (w.alloc (.cells #[v] t)).cell? ⟨w.heap.size, 0, none⟩ = some v := by
  have h : (w.alloc (.cells #[v] t)).heap[w.heap.size]? = some (.cells #[v] t (0, 0)) := by simp only [World.alloc, Array.getElem?_push_size]
  generalize w.alloc (.cells #[v] t) = W at h ⊢
  simp [World.cell?, h]
theorem upBoxes (w : World) (t u : TypeId) (x y : Value) : Below w.heap.size w ((w.alloc (.cells #[x] t)).alloc (.cells #[y] u)) ∧ ((w.alloc (.cells #[x] t)).alloc (.cells #[y] u)).cell? ⟨w.heap.size, 0, none⟩ = some x ∧ ((w.alloc (.cells #[x] t)).alloc (.cells #[y] u)).cell? ⟨w.heap.size + 1, 0, none⟩ = some y := by
  have h1 : Below w.heap.size w (w.alloc (.cells #[x] t)) := (Below.refl _ _).alloc (Nat.le_refl _) _
  have hs : (w.alloc (.cells #[x] t)).heap.size = w.heap.size + 1 := World.size_alloc _ _
  have h2 : Below (w.alloc (.cells #[x] t)).heap.size (w.alloc (.cells #[x] t)) ((w.alloc (.cells #[x] t)).alloc (.cells #[y] u)) := (Below.refl _ _).alloc (Nat.le_refl _) _
  refine ⟨h1.trans (h2.mono h1.size), (cell_keep (h2.block _ (by omega)) _).trans (cell_new1 w t x), ?_⟩
  have := cell_new1 (w.alloc (.cells #[x] t)) u y
  rw [hs] at this
  exact this
set_option maxRecDepth 100000 in
set_option maxHeartbeats 1000000 in
theorem upTo_any (w : World) {S : Nat → Prop} {a : Option Addr} {n c : Nat} {l : List Ver} {s : Int} (hl : RdL Elt.ver S w (.slice a n c) l) (hk : okV l) (hx : l.length ≤ 1000) :
    Calls Try.prog 61 #[.slice a n c, .int .i64 s] w fun e w' => e = .returned (.int .i64 (cntV l s : Nat)) ∧ Below w.heap.size w w' := by
  obtain ⟨rfl, hnc, hcm⟩ := hl.len
  have hb2 := upBoxes w 37 3 (.slice a l.length c) (.int .i64 s)
  go_enter Try.func61, Try.ntmps61
  go_wp2_with fail
  obtain ⟨q0, hc0, hc1⟩ := hb2
  generalize (w.alloc (.cells #[.slice a l.length c] 37)).alloc (.cells #[.int .i64 s] 3) = W at *
  refine (search_any W 78 _ (enters_of Try.func78 (by kernel_rfl) rfl) (by omega) (cntV l s) (cntV_le l s) (fun W2 i hi hb => ?_)).mono ?_
  · refine (upTo1_any (s := s) W2 (hl.below (q0.trans (hb.mono q0.size))) (w.heap.size) (w.heap.size + 1) i hi ?_ ?_).mono ?_
    · exact (cell_keep (hb.block _ (cell_lt hc0)) _).trans hc0
    · exact (cell_keep (hb.block _ (cell_lt hc1)) _).trans hc1
    · rintro e w2 ⟨rfl, hb2⟩
      refine ⟨?_, hb2.mono hb.size⟩
      have := cnt_iff hk s hi
      rw [show decide (s < l[i].stamp) = decide (cntV l s ≤ i) from by rw [decide_eq_decide]; omega]
  · rintro e w2 ⟨rfl, hb2⟩
    go_wp2_with fail
    go_ret
    exact ⟨rfl, q0.trans (hb2.mono q0.size)⟩
end Go.Proofs.Yticngbgjfdcnhaa
namespace Go.Proofs.Yticngbgjfdcnhaa
open Go.RowKit
def HalfV (w : World) (g : Nat) (xs : List Ver) (k : Nat) (W : World) : Prop :=
  ∃ vs us, W.heap[g]? = some (.cells (vs ++ us).toArray 44 (0, 0)) ∧ Flat Elt.ver (fun j => w.heap.size ≤ j ∧ j < W.heap.size ∧ j ≠ g) W (xs.take k) vs ∧ Flat Elt.ver (fun j => j < w.heap.size) W (xs.drop k) us ∧ w.heap.size ≤ g ∧ Below w.heap.size w W
theorem HalfV.lt {w W : World} {g k : Nat} {xs : List Ver} (h : HalfV w g xs k W) : g < W.heap.size := by
  obtain ⟨vs, us, hg, _⟩ := h
  exact (Array.getElem?_eq_some_iff.1 hg).1
theorem HalfV.at {w W : World} {g k : Nat} {xs : List Ver} (h : HalfV w g xs k W) (hk : k < xs.length) :
    ∃ A C, W.cell? ⟨g, k * 3 + 2, none⟩ = some (.slice A xs[k].value.length C) ∧ RdS (fun j => j < w.heap.size) W (.slice A xs[k].value.length C) xs[k].value ∧
      ∀ W2 v2, Below W.heap.size W W2 → RdS (fun j => W.heap.size ≤ j ∧ j < W2.heap.size) W2 v2 xs[k].value →
        W2.cell? ⟨g, k * 3 + 2, none⟩ = some (.slice A xs[k].value.length C) ∧ W2.frozen? ⟨g, k * 3 + 2, none⟩ = false ∧ HalfV w g xs (k + 1) (W2.setCell ⟨g, k * 3 + 2, none⟩ v2) := by
  have hlt := h.lt
  obtain ⟨vs, us, hg, hv, hu, hwg, hb⟩ := h
  have hvl := hv.len
  rw [List.length_take, Nat.min_eq_left (Nat.le_of_lt hk)] at hvl
  rw [List.drop_eq_getElem_cons hk] at hu
  obtain ⟨cs, us', rfl, ⟨v, rfl, hrv, hi⟩, hu'⟩ := hu
  obtain ⟨A, C, rfl, _, _⟩ := hrv.shape
  have hvl' : vs.length = k * 3 := hvl
  have hget : (vs ++ (verC xs[k] (.slice A xs[k].value.length C) ++ us'))[k * 3 + 2]? = some (.slice A xs[k].value.length C) := by
    rw [List.getElem?_append_right (by omega), show k * 3 + 2 - vs.length = 2 by omega]
    rfl
  have hcell : ∀ X : World, X.heap[g]? = some (.cells (vs ++ (verC xs[k] (.slice A xs[k].value.length C) ++ us')).toArray 44 (0, 0)) → X.cell? ⟨g, k * 3 + 2, none⟩ = some (.slice A xs[k].value.length C) := fun X hX => by
    simp only [World.cell?, hX, List.getElem?_toArray]
    exact hget
  refine ⟨A, C, hcell W hg, hrv, fun W2 v2 hb2 hr2 => ?_⟩
  have hg2 := (hb2.block g hlt).trans hg
  refine ⟨hcell W2 hg2, by simp [World.frozen?, hg2], vs ++ verC xs[k] v2, us', ?_, ?_, ?_, hwg, ?_⟩
  · rw [show (W2.setCell ⟨g, k * 3 + 2, none⟩ v2).heap[g]? = some (.cells ((vs ++ (verC xs[k] (.slice A xs[k].value.length C) ++ us')).toArray.setIfInBounds (k * 3 + 2) v2) 44 (0, 0)) by simp [World.setCell, Array.getElem?_modify, hg2]]
    congr 2
    apply Array.ext'
    simp only [Array.toList_setIfInBounds]
    rw [List.set_append_right _ _ (by omega), show k * 3 + 2 - vs.length = 2 by omega]
    simp [verC, List.append_assoc]
  · rw [List.take_add_one, List.getElem?_eq_getElem hk]
    have hkeep : ∀ j, j ≠ g → j < W.heap.size → (W2.setCell ⟨g, k * 3 + 2, none⟩ v2).heap[j]? = W.heap[j]? := fun j hj h1 => (heap_setCell_other W2 ⟨g, k * 3 + 2, none⟩ j v2 hj).trans (hb2.block j h1)
    refine Flat.append ?_ ?_
    · refine (hv.keep (w' := W2.setCell ⟨g, k * 3 + 2, none⟩ v2) fun j hj => hkeep j hj.2.2 hj.2.1).weak fun j hj => ⟨hj.1, ?_, hj.2.2⟩
      have := hb2.size
      rw [size_set]; omega
    · refine ⟨verC xs[k] v2, [], by simp, ⟨v2, rfl, ?_, hi⟩, rfl⟩
      refine (hr2.keep (w' := W2.setCell ⟨g, k * 3 + 2, none⟩ v2) fun j hj => heap_setCell_other W2 ⟨g, k * 3 + 2, none⟩ j v2 (by have h1 : W.heap.size ≤ j := hj.1; show j ≠ g; omega)).weak fun j hj => ⟨Nat.le_trans hb.size hj.1, ?_, by have h1 : W.heap.size ≤ j := hj.1; omega⟩
      rw [size_set]; exact hj.2
  · exact hu'.keep fun j hj => (heap_setCell_other W2 ⟨g, k * 3 + 2, none⟩ j v2 (by have h1 : j < w.heap.size := hj; show j ≠ g; omega)).trans (hb2.block j (Nat.lt_of_lt_of_le hj hb.size))
  · exact (hb.trans (hb2.mono hb.size)).setCell (p := ⟨g, k * 3 + 2, none⟩) hwg _
theorem HalfV.done {w W : World} {g : Nat} {xs : List Ver} (h : HalfV w g xs xs.length W) (hm : xs.length ≤ maxLen) : RdL Elt.ver (fun k => w.heap.size ≤ k ∧ k < W.heap.size) W (.slice (some ⟨g, 0, none⟩) xs.length xs.length) xs := by
  have hlt := h.lt
  obtain ⟨vs, us, hg, hv, hu, hwg, hb⟩ := h
  rw [List.take_length] at hv
  refine ⟨some ⟨g, 0, none⟩, xs.length, rfl, Nat.le_refl _, hm, .inr ⟨g, 0, rfl, ⟨hwg, hlt⟩, fun r hr => ?_⟩⟩
  obtain ⟨cs, h1, h2⟩ := hv.at r hr
  refine ⟨cs, Elt.ver.weak h1 fun j hj => ⟨hj.1, hj.2.1⟩, fun j u hj => ?_⟩
  have h3 := h2 j u hj
  rw [Nat.zero_add]
  simp only [World.cell?, hg, List.getElem?_toArray]
  rw [List.getElem?_append_left (List.getElem?_eq_some_iff.1 h3).1]
  exact h3
theorem rows_joined {cur : Array Value} {cs cs2 : List Value} {off2 p q : Nat} (hcur : cur.size = p + q) (h1 : cs.length = p) (h2 : cs2.length = q) (ho : (q = 0 ∧ off2 = 0) ∨ off2 = p) :
    (cur.toList.take 0 ++ cs ++ cur.toList.drop (0 + cs.length)).toArray.toList.take off2 ++ cs2 ++ (cur.toList.take 0 ++ cs ++ cur.toList.drop (0 + cs.length)).toArray.toList.drop (off2 + cs2.length) = cs ++ cs2 := by
  simp only [List.take_zero, List.nil_append, Nat.zero_add]
  rcases ho with ⟨rfl, rfl⟩ | rfl
  · obtain rfl : cs2 = [] := List.eq_nil_of_length_eq_zero h2
    have : cur.toList.drop cs.length = [] := List.drop_eq_nil_of_le (by simp; omega)
    simp [this]
  · have e1 : (cs ++ cur.toList.drop cs.length).take off2 = cs := by rw [← h1]; simp
    have e2 : (cs ++ cur.toList.drop cs.length).drop (off2 + cs2.length) = [] := List.drop_eq_nil_of_le (by simp; omega)
    rw [e1, e2]
    simp
theorem off_of (G n m : Nat) : ∃ off, (if n + m = n then some (⟨G, 0, none⟩ : Addr) else (some (⟨G, 0, none⟩ : Addr)).map (·.add (n * 3))) = some ⟨G, off, none⟩ ∧ ((m * 3 = 0 ∧ off = 0) ∨ off = n * 3) := by
  by_cases h : n + m = n
  · exact ⟨0, by rw [if_pos h], .inl ⟨by omega, rfl⟩⟩
  · refine ⟨n * 3, ?_, .inr rfl⟩
    rw [if_neg h]
    simp [Addr.add_lit]
theorem HalfV.start {w W : World} {G : Nat} {cs cs2 : List Value} {l m : List Ver} (hg : W.heap[G]? = some (.cells (cs ++ cs2).toArray 44 (0, 0))) (hb : Below w.heap.size w W) (hG : w.heap.size ≤ G)
    (h1 : Flat Elt.ver (· < w.heap.size) W l cs) (h2 : Flat Elt.ver (· < w.heap.size) W m cs2) : HalfV w G (l ++ m) 0 W :=
  ⟨[], cs ++ cs2, hg, rfl, h1.append h2, hG, hb⟩
set_option maxRecDepth 100000 in
set_option maxHeartbeats 2000000 in
theorem copied_any (w : World) {S S2 : Nat → Prop} {a a2 : Option Addr} {n c n2 c2 : Nat} {l m : List Ver} (hl : RdL Elt.ver S w (.slice a n c) l) (hm : RdL Elt.ver S2 w (.slice a2 n2 c2) m) (hln : l.length ≤ 1000000) (hmn : m.length ≤ 1000000) (hx : ∀ x ∈ l ++ m, x.value.length ≤ 1000000) :
    Calls Try.prog 60 #[.slice a n c, .slice a2 n2 c2] w (VersNew w (l ++ m)) := by
  obtain ⟨rfl, hnc, hcm⟩ := hl.len
  obtain ⟨rfl, hnc2, hcm2⟩ := hm.len
  obtain ⟨off, hoff, ho⟩ := off_of w.heap.size l.length m.length
  have hl0 := hl.fit.weak (S' := fun k => k < w.heap.size) (fun _ h => h.2)
  have hm0 := hm.fit.weak (S' := fun k => k < w.heap.size) (fun _ h => h.2)
  clear hl hm
  go_enter Try.func60, Try.ntmps60
  go_upto_region 2 with (first
    | (refine wpList_makeL (E := Elt.ver) verP rfl rfl (k := l.length + m.length) rfl rfl ?_ (by omega) (by omega); intro cur hcur)
    | fail)
  have hg1 : (w.alloc (.cells cur 44)).heap[w.heap.size]? = some (.cells cur 44 (0, 0)) := by simp only [World.alloc, Array.getElem?_push_size]
  have q1 : Below w.heap.size w (w.alloc (.cells cur 44)) := (Below.refl _ _).alloc (Nat.le_refl _) _
  generalize w.alloc (.cells cur 44) = W at *
  have hl1 := hl0.below q1
  have hfit1 : 0 + l.length * Elt.ver.size ≤ cur.size := by rw [hcur, Nat.add_mul]; omega
  clear hl0
  go_wp2_with (first
    | (refine wpList_copy_rows (E := Elt.ver) verP.toLsP rfl rfl rfl rfl hl1 hg1 ?_ (by omega) hfit1; intro cs W2 hcs hg2 hgr2; have q2 := q1.grown hgr2 q1.size (fun k hk => by injection hk with hk; omega); have hm2 := hm0.below q2; have hcl := hcs.len; clear hl1 hm0)
    | (refine wpList_copy_rows (E := Elt.ver) verP.toLsP rfl rfl rfl rfl hm2 hg2 ?_ (by omega) ?hfit2; intro cs2 W3 hcs2 hg3 hgr3; have q3 := q2.grown hgr3 q2.size (fun k hk => by injection hk with hk; omega); clear hm2)
    | (refine wpList_sliceRaw verP.toLsP rfl rfl rfl (l := l.length) (r := l.length + m.length) (run_bounds_l _ (by omega)) ?_; rw [hoff])
    | fail)
  case hfit2 =>
    have e3 : Elt.ver.size = 3 := rfl
    simp only [e3] at hcl hcur ⊢
    simp
    rcases ho with ⟨h1, h2⟩ | h1 <;> omega
  have e := rows_joined (cur := cur) (cs := cs) (cs2 := cs2) (off2 := off) (p := l.length * 3) (q := m.length * 3) (by rw [hcur, Nat.add_mul]; rfl) hcl hcs2.len ho
  rw [e] at hg3
  have H0 : HalfV w w.heap.size (l ++ m) 0 W3 := HalfV.start hg3 q3 (Nat.le_refl _)
    (hcs.keep fun k hk => (hgr3.block k (Nat.lt_of_lt_of_le hk q2.size) (fun e => by injection e with e; exact Nat.lt_irrefl _ (e ▸ hk))).trans (hgr2.block k (Nat.lt_of_lt_of_le hk q1.size) (fun e => by injection e with e; exact Nat.lt_irrefl _ (e ▸ hk))))
    (hcs2.keep fun k hk => hgr3.block k (Nat.lt_of_lt_of_le hk q2.size) (fun e => by injection e with e; exact Nat.lt_irrefl _ (e ▸ hk)))
  clear e hcs hcs2 hg2 hg3 hgr2 hgr3 q1 q2 q3 hcl hg1 hfit1 hoff ho hcur
  have hN : l.length + m.length = (l ++ m).length := by simp
  have hNs : (l ++ m).length ≤ 2000000 := by omega
  have hNI : (l.length : Int) + (m.length : Int) = ((l ++ m).length : Int) := by omega
  rw [hN, hNI]
  clear hN hNI
  generalize l ++ m = xs at *
  go_upto_region 4 with (fail)
  go_loopw [22] (fun iv wr => ∃ k : Nat, iv = .int .i64 k ∧ k ≤ xs.length ∧ HalfV w w.heap.size xs k wr) (fun i _ => xs.length - (intOf i).toNat)
  case atStart => exact ⟨0, rfl, Nat.zero_le _, H0⟩
  case round =>
    clear H0
    obtain ⟨k, rfl, hkl, H⟩ := hrel
    rcases Nat.lt_or_ge k xs.length with hlt | hge
    · obtain ⟨A, C, c0, hr, hnext⟩ := H.at hlt
      have hv := hx _ (List.getElem_mem hlt)
      go_wp2_with fail
      refine (clone_any wr hr.rd (Nat.le_refl _) hv).mono ?_
      rintro e w2 ⟨A2, k2, C2, rfl, hF⟩
      obtain ⟨c2', f2, H2⟩ := hnext w2 _ hF.1 (Own.rdS hF.2)
      clear hnext hr c0 hv
      go_wp2_with fail
      go_roundw
      case rel => exact ⟨k + 1, by go_num, by omega, H2⟩
      case measure => simp [intOf]; omega
    · obtain rfl : k = xs.length := by omega
      go_wp2_with fail
      go_ret
      have h1 := H.done (by unfold maxLen; omega)
      obtain ⟨_, _, _, _, _, _, hb⟩ := H
      exact ⟨_, _, rfl, h1, hb⟩
end Go.Proofs.Yticngbgjfdcnhaa
namespace Go.Proofs.Yticngbgjfdcnhaa
open Go.RowKit
theorem vacV_not {l : List Ver} {s : Int} (h : ¬ okV l) : vacV l s = l := by unfold vacV; rw [if_neg h]
theorem VersNew.from {w w1 w2 : World} {l : List Ver} {e : Ending} (q : Below w.heap.size w w1) (h : VersNew w1 l e w2) : VersNew w l e w2 := by
  obtain ⟨a, c, rfl, hr, hb⟩ := h
  exact ⟨a, c, rfl, hr.weak fun k hk => ⟨Nat.le_trans q.size hk.1, hk.2⟩, q.trans (hb.mono q.size)⟩
theorem small_all {l : List Ver} (h : smallV l) : ∀ x ∈ l ++ ([] : List Ver), x.value.length ≤ 1000000 := fun x hx => by
  rw [List.append_nil] at hx
  have := h.2 x hx
  omega
set_option maxRecDepth 100000 in
set_option maxHeartbeats 1000000 in
theorem chVacuum_any (w : World) {S : Nat → Prop} {a : Option Addr} {n c : Nat} {l : List Ver} {s : Int} (hl : RdL Elt.ver S w (.slice a n c) l) (hsm : smallV l) :
    Calls Try.prog 42 #[.slice a n c, .int .i64 s] w (VersNew w (vacV l s)) := by
  obtain ⟨rfl, hnc, hcm⟩ := hl.len
  have hln : l.length ≤ 1000 := hsm.1
  have q := Below.refl w.heap.size w
  go_enter Try.func42, Try.ntmps42
  go_wp2_with fail
  refine (chCheck_any _ hl).mono ?_
  rintro e w1 ⟨rfl, hb⟩
  replace q := q.trans (hb.mono q.size)
  clear hb
  by_cases hk : okV l
  · rw [decide_eq_true hk]
    go_wp2_with fail
    refine (upTo_any (s := s) _ (hl.below q) hk hln).mono ?_
    rintro e w2 ⟨rfl, hb⟩
    replace q := q.trans (hb.mono q.size)
    clear hb
    have hle := cntV_le l s
    have hl2 := hl.below q
    cases hc : cntV l s with
    | zero =>
      have hz := Lib.hid (show l.drop 0 = vacV l s from (vacV_zero hc).symm)
      clear hc hle
      have hlo : l.drop (0) = (l.drop (0)).take (l.length - (0)) := (List.take_of_length_le (by rw [List.length_drop]; omega)).symm
      have hnk : 0 ≤ l.length := by omega
      go_wp2_with (first | (refine wpList_sliceL verP.toLsP rfl rfl rfl hl2 (run_bounds_l' _ (l := 0) (by omega) hnk) ?_ hnk (Nat.le_refl _); intro ad2 cc2 hrd; rw [← hlo] at hrd) | fail)
      refine (copied_any _ hrd (RdL.nil Elt.ver (fun _ => False) _) (by rw [List.length_drop]; omega) (by simp) (small_all ⟨by rw [List.length_drop]; omega, fun y hy => hsm.2 y (List.mem_of_mem_drop hy)⟩)).mono ?_
      rintro e w3 hE
      rw [List.append_nil] at hE
      rw [hz.out] at hE
      obtain ⟨a3, c3, rfl, hr, hb3⟩ := VersNew.from q hE
      go_wp2_with fail
      go_ret
      exact ⟨_, _, rfl, hr, hb3⟩
    | succ m =>
      have hm : m < l.length := by omega
      have d0 : decide ((0 : Int) < ((m + 1 : Nat) : Int)) = true := decide_eq_true (by omega)
      have e1 : ((m + 1 : Nat) : Int) - 1 = (m : Int) := by omega
      obtain ⟨b, off, A, C, rfl, hb, c0, c1, c2, hv, hi, hn1, hn2⟩ := hl2.ver m hm
      cases hg : l[m].gone with
      | true =>
        rw [hg] at c1
        have hz := Lib.hid (vacV_gone hk hc hm hg).symm
        clear hg
        clear hc hle
        have hlo : l.drop (m + 1) = (l.drop (m + 1)).take (l.length - (m + 1)) := (List.take_of_length_le (by rw [List.length_drop]; omega)).symm
        have hnk : m + 1 ≤ l.length := by omega
        go_wp2_with (first | (refine wpList_sliceL verP.toLsP rfl rfl rfl hl2 (run_bounds_l' _ (l := m + 1) (by omega) hnk) ?_ hnk (Nat.le_refl _); intro ad2 cc2 hrd; rw [← hlo] at hrd) | fail)
        refine (copied_any _ hrd (RdL.nil Elt.ver (fun _ => False) _) (by rw [List.length_drop]; omega) (by simp) (small_all ⟨by rw [List.length_drop]; omega, fun y hy => hsm.2 y (List.mem_of_mem_drop hy)⟩)).mono ?_
        rintro e w3 hE
        rw [List.append_nil] at hE
        rw [hz.out] at hE
        obtain ⟨a3, c3, rfl, hr, hb3⟩ := VersNew.from q hE
        go_wp2_with fail
        go_ret
        exact ⟨_, _, rfl, hr, hb3⟩
      | false =>
        rw [hg] at c1
        have hz := Lib.hid (vacV_some hk hc hm hg).symm
        clear hg
        clear hc hle
        have hlo : l.drop (m) = (l.drop (m)).take (l.length - (m)) := (List.take_of_length_le (by rw [List.length_drop]; omega)).symm
        have hnk : m ≤ l.length := by omega
        go_wp2_with (first | (refine wpList_sliceL verP.toLsP rfl rfl rfl hl2 (run_bounds_l' _ (l := m) (by omega) hnk) ?_ hnk (Nat.le_refl _); intro ad2 cc2 hrd; rw [← hlo] at hrd) | fail)
        refine (copied_any _ hrd (RdL.nil Elt.ver (fun _ => False) _) (by rw [List.length_drop]; omega) (by simp) (small_all ⟨by rw [List.length_drop]; omega, fun y hy => hsm.2 y (List.mem_of_mem_drop hy)⟩)).mono ?_
        rintro e w3 hE
        rw [List.append_nil] at hE
        rw [hz.out] at hE
        obtain ⟨a3, c3, rfl, hr, hb3⟩ := VersNew.from q hE
        go_wp2_with fail
        go_ret
        exact ⟨_, _, rfl, hr, hb3⟩
  · rw [decide_eq_false hk]
    have hz := Lib.hid (vacV_not (s := s) hk)
    clear hk
    go_wp2_with fail
    refine (copied_any _ (hl.below q) (RdL.nil Elt.ver (fun _ => False) _) (by omega) (by simp) (small_all hsm)).mono ?_
    rintro e w3 hE
    rw [List.append_nil] at hE
    obtain ⟨a3, c3, rfl, hr, hb⟩ := VersNew.from q hE
    go_wp2_with fail
    go_ret
    rw [hz.out]
    exact ⟨_, _, rfl, hr, hb⟩
end Go.Proofs.Yticngbgjfdcnhaa
