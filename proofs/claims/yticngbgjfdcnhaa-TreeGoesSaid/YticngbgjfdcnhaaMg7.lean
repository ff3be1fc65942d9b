/-
  TEXTS OF ONE PROOF, merged: Nod, TraA, TraB, TraC, TraE, TraF.
-/
import Derived.Test.YticngbgjfdcnhaaMg6
namespace Go.Proofs.Yticngbgjfdcnhaa
open Go.RowKit
def blkOf (v : Value) : List Nat := v.ownBlock.toList
theorem blkOf_mem {v : Value} {k : Nat} : k ∈ blkOf v ↔ v.ownBlock = some k := by
  unfold blkOf
  cases v.ownBlock with
  | none => simp
  | some j => simp [eq_comm]
theorem blkOf_nodup (v : Value) : (blkOf v).Nodup := by
  unfold blkOf
  cases v.ownBlock <;> simp
section
variable {α : Type} {E : Elt α} {S : Nat → Prop} {w : World}
theorem Flat.drop : ∀ {xs : List α} {vs : List Value} (_ : Flat E S w xs vs) (k : Nat), Flat E S w (xs.drop k) (vs.drop (k * E.size))
  | [], _, h, k => by cases h; simp [Flat]
  | x :: xs, _, h, 0 => by simpa using h
  | x :: xs, _, ⟨us, ws, rfl, h1, h2⟩, k + 1 => by
    have hl := E.len h1
    have e : (us ++ ws).drop ((k + 1) * E.size) = ws.drop (k * E.size) := by
      rw [show (k + 1) * E.size = us.length + k * E.size by rw [hl, Nat.add_mul]; omega, List.drop_length_add_append]
    rw [e]
    exact Flat.drop h2 k
end
mutual
def OwnN (D : Nat → Prop) (w : World) : Nd → List Value → List Nat → Prop
  | .mk ks cs ns, vs, F => ∃ v1 v2 v3 us1 us2 us3 F3, vs = [v1, v2, v3] ∧ F = blkOf v1 ++ blkOf v2 ++ blkOf v3 ++ F3 ∧
      RowQ 32 1 w v1 ks.length us1 ∧ Flat Elt.bytes D w ks us1 ∧ RowQ 37 1 w v2 cs.length us2 ∧ Flat (Elt.list Elt.ver) D w cs us2 ∧ RowQ 28 3 w v3 ns.length us3 ∧ OwnNs D w ns us3 F3
def OwnNs (D : Nat → Prop) (w : World) : List Nd → List Value → List Nat → Prop
  | [], vs, F => vs = [] ∧ F = []
  | n :: ns, vs, F => ∃ us ws F1 F2, vs = us ++ ws ∧ F = F1 ++ F2 ∧ OwnN D w n us F1 ∧ OwnNs D w ns ws F2
end
theorem OwnN_def (D : Nat → Prop) (w : World) (n : Nd) (vs : List Value) (F : List Nat) : OwnN D w n vs F ↔ ∃ v1 v2 v3 us1 us2 us3 F3, vs = [v1, v2, v3] ∧ F = blkOf v1 ++ blkOf v2 ++ blkOf v3 ++ F3 ∧
      RowQ 32 1 w v1 n.keys.length us1 ∧ Flat Elt.bytes D w n.keys us1 ∧ RowQ 37 1 w v2 n.chains.length us2 ∧ Flat (Elt.list Elt.ver) D w n.chains us2 ∧ RowQ 28 3 w v3 n.kids.length us3 ∧ OwnNs D w n.kids us3 F3 := by
  cases n with
  | mk ks cs ns => rw [OwnN]; rfl
section
variable {D : Nat → Prop} {w w' : World}
mutual
theorem own_keep : ∀ (n : Nd) {vs : List Value} {F : List Nat}, OwnN D w n vs F → (∀ k ∈ F, w'.heap[k]? = w.heap[k]?) → (∀ k, D k → w'.heap[k]? = w.heap[k]?) → OwnN D w' n vs F
  | .mk ks cs ns, vs, F, h, hF, hD => by
    rw [OwnN] at h ⊢
    obtain ⟨v1, v2, v3, us1, us2, us3, F3, e1, rfl, h1, h2, h3, h4, h5, h6⟩ := h
    refine ⟨v1, v2, v3, us1, us2, us3, F3, e1, rfl, h1.kept fun k hk => hF k ?_, h2.keep hD, h3.kept fun k hk => hF k ?_, h4.keep hD, h5.kept fun k hk => hF k ?_, owns_keep ns h6 (fun k hk => hF k ?_) hD⟩
    · simp [blkOf_mem, hk]
    · simp [blkOf_mem, hk]
    · simp [blkOf_mem, hk]
    · simp [hk]
theorem owns_keep : ∀ (ns : List Nd) {vs : List Value} {F : List Nat}, OwnNs D w ns vs F → (∀ k ∈ F, w'.heap[k]? = w.heap[k]?) → (∀ k, D k → w'.heap[k]? = w.heap[k]?) → OwnNs D w' ns vs F
  | [], vs, F, h, _, _ => by rw [OwnNs] at h ⊢; exact h
  | n :: ns, vs, F, h, hF, hD => by
    rw [OwnNs] at h ⊢
    obtain ⟨us, ws, F1, F2, e1, rfl, h1, h2⟩ := h
    exact ⟨us, ws, F1, F2, e1, rfl, own_keep n h1 (fun k hk => hF k (List.mem_append_left _ hk)) hD, owns_keep ns h2 (fun k hk => hF k (List.mem_append_right _ hk)) hD⟩
end
mutual
theorem own_lt : ∀ (n : Nd) {vs : List Value} {F : List Nat}, OwnN D w n vs F → ∀ k ∈ F, k < w.heap.size
  | .mk ks cs ns, vs, F, h, k, hk => by
    rw [OwnN] at h
    obtain ⟨v1, v2, v3, us1, us2, us3, F3, e1, rfl, h1, h2, h3, h4, h5, h6⟩ := h
    simp only [List.mem_append, blkOf_mem] at hk
    rcases hk with ((hk | hk) | hk) | hk
    · exact h1.lt hk
    · exact h3.lt hk
    · exact h5.lt hk
    · exact owns_lt ns h6 k hk
theorem owns_lt : ∀ (ns : List Nd) {vs : List Value} {F : List Nat}, OwnNs D w ns vs F → ∀ k ∈ F, k < w.heap.size
  | [], vs, F, h, k, hk => by rw [OwnNs] at h; rw [h.2] at hk; cases hk
  | n :: ns, vs, F, h, k, hk => by
    rw [OwnNs] at h
    obtain ⟨us, ws, F1, F2, e1, rfl, h1, h2⟩ := h
    rcases List.mem_append.1 hk with hk | hk
    · exact own_lt n h1 k hk
    · exact owns_lt ns h2 k hk
end
theorem own_len {n : Nd} {vs : List Value} {F : List Nat} (h : OwnN D w n vs F) : vs.length = 3 := by
  rw [OwnN_def] at h
  obtain ⟨v1, v2, v3, _, _, _, _, rfl, _⟩ := h
  rfl
theorem owns_len : ∀ {ns : List Nd} {vs : List Value} {F : List Nat}, OwnNs D w ns vs F → vs.length = ns.length * 3
  | [], vs, F, h => by rw [OwnNs] at h; rw [h.1]; rfl
  | n :: ns, vs, F, h => by
    rw [OwnNs] at h
    obtain ⟨us, ws, F1, F2, rfl, _, h1, h2⟩ := h
    rw [List.length_append, own_len h1, owns_len h2, List.length_cons, Nat.add_mul]
    omega
theorem owns_append : ∀ {ns ms : List Nd} {vs us : List Value} {F G : List Nat}, OwnNs D w ns vs F → OwnNs D w ms us G → OwnNs D w (ns ++ ms) (vs ++ us) (F ++ G)
  | [], ms, vs, us, F, G, h, k => by
    rw [OwnNs] at h
    rw [h.1, h.2]
    exact k
  | n :: ns, ms, vs, us, F, G, h, k => by
    rw [OwnNs] at h
    obtain ⟨u1, w1, F1, F2, rfl, rfl, h1, h2⟩ := h
    rw [List.cons_append, OwnNs]
    exact ⟨u1, w1 ++ us, F1, F2 ++ G, by rw [List.append_assoc], by rw [List.append_assoc], h1, owns_append h2 k⟩
theorem owns_split : ∀ {ns ms : List Nd} {vs : List Value} {F : List Nat}, OwnNs D w (ns ++ ms) vs F → ∃ us ws F1 F2, vs = us ++ ws ∧ F = F1 ++ F2 ∧ OwnNs D w ns us F1 ∧ OwnNs D w ms ws F2
  | [], ms, vs, F, h => ⟨[], vs, [], F, rfl, rfl, by rw [OwnNs]; exact ⟨rfl, rfl⟩, h⟩
  | n :: ns, ms, vs, F, h => by
    rw [List.cons_append, OwnNs] at h
    obtain ⟨u1, w1, F1, F2, rfl, rfl, h1, h2⟩ := h
    obtain ⟨us, ws, G1, G2, rfl, rfl, h3, h4⟩ := owns_split h2
    refine ⟨u1 ++ us, ws, F1 ++ G1, G2, by rw [List.append_assoc], by rw [List.append_assoc], ?_, h4⟩
    rw [OwnNs]
    exact ⟨u1, us, F1, G1, rfl, rfl, h1, h3⟩
theorem owns_one {n : Nd} {vs : List Value} {F : List Nat} : OwnNs D w [n] vs F ↔ OwnN D w n vs F := by
  rw [OwnNs]
  constructor
  · rintro ⟨us, ws, F1, F2, rfl, rfl, h1, h2⟩
    rw [OwnNs] at h2
    rw [h2.1, h2.2, List.append_nil, List.append_nil]
    exact h1
  · intro h
    exact ⟨vs, [], F, [], by simp, by simp, h, by rw [OwnNs]; exact ⟨rfl, rfl⟩⟩
theorem owns_nil : OwnNs D w [] [] [] := by rw [OwnNs]; exact ⟨rfl, rfl⟩
theorem owns_at {ns : List Nd} {vs : List Value} {F : List Nat} (h : OwnNs D w ns vs F) (i : Nat) (hi : i < ns.length) :
    ∃ us ms ws F1 F2 F3, vs = us ++ ms ++ ws ∧ F = F1 ++ F2 ++ F3 ∧ us.length = i * 3 ∧ ms.length = 3 ∧ OwnNs D w (ns.take i) us F1 ∧ OwnN D w ns[i] ms F2 ∧ OwnNs D w (ns.drop (i + 1)) ws F3 := by
  have e : ns = ns.take i ++ ([ns[i]] ++ ns.drop (i + 1)) := by
    rw [List.singleton_append, ← List.drop_eq_getElem_cons hi, List.take_append_drop]
  rw [e] at h
  obtain ⟨us, ws, F1, F2, rfl, rfl, h1, h2⟩ := owns_split h
  obtain ⟨ms, xs, G1, G2, rfl, rfl, h3, h4⟩ := owns_split h2
  have h3' := owns_one.1 h3
  have hl := owns_len h1
  rw [List.length_take, Nat.min_eq_left (Nat.le_of_lt hi)] at hl
  exact ⟨us, ms, xs, F1, G1, G2, by rw [List.append_assoc], by rw [List.append_assoc], hl, own_len h3', h1, h3', h4⟩
theorem RowQ.rdL {α : Type} {E : Elt α} {S : Nat → Prop} {Te : TypeId} {v : Value} {xs : List α} {us : List Value} (h : RowQ Te E.size w v xs.length us) (hf : ∀ r (hr : r < xs.length), ∃ cs, E.R S w xs[r] cs ∧ ∀ j u, cs[j]? = some u → us[r * E.size + j]? = some u) (hS : ∀ k, v.ownBlock = some k → S k) : RdL E S w v xs := by
  rcases h.cases with ⟨rfl, h2, rfl⟩ | ⟨g, cap, cur, rfl, hg, hnc, hcm, _⟩
  · obtain rfl : xs = [] := List.eq_nil_of_length_eq_zero h2
    exact RdL.nil _ _ _
  · refine ⟨_, cap, rfl, hnc, hcm, .inr ⟨g, 0, rfl, hS g rfl, fun r hr => ?_⟩⟩
    obtain ⟨cs, h1, h2⟩ := hf r hr
    refine ⟨cs, h1, fun j u hj => ?_⟩
    rw [Nat.zero_add]
    exact h.cell rfl (h2 j u hj)
theorem owns_get : ∀ {ns : List Nd} {vs : List Value} {F : List Nat}, OwnNs D w ns vs F → ∀ r (hr : r < ns.length), ∃ cs G, OwnN D w ns[r] cs G ∧ (∀ k ∈ G, k ∈ F) ∧ ∀ j u, cs[j]? = some u → vs[r * 3 + j]? = some u := by
  intro ns vs F h r hr
  obtain ⟨us, ms, ws, F1, F2, F3, rfl, rfl, h1, h2, _, h3, _⟩ := owns_at h r hr
  refine ⟨ms, F2, h3, fun k hk => by simp [hk], fun j u hj => ?_⟩
  have hjl := (List.getElem?_eq_some_iff.1 hj).1
  rw [List.append_assoc, List.getElem?_append_right (by omega), h1, Nat.add_sub_cancel_left, List.getElem?_append_left hjl]
  exact hj
theorem own_read : ∀ (N : Nat) {n : Nd}, wN n ≤ N → ∀ {vs : List Value} {F : List Nat} {S : Nat → Prop}, OwnN D w n vs F → (∀ k, D k → S k) → (∀ k ∈ F, S k) → Elt.nd.R S w n vs
  | 0, n, hN, _, _, _, _, _, _ => by have := wN_pos n; omega
  | N + 1, n, hN, vs, F, S, h, hD, hF => by
    rw [OwnN_def] at h
    obtain ⟨v1, v2, v3, us1, us2, us3, F3, rfl, rfl, h1, h2, h3, h4, h5, h6⟩ := h
    refine nd_in ?_ ?_ ?_
    · refine RowQ.rdL (E := Elt.bytes) h1 (fun r hr => ?_) (fun k hk => hF k (by simp [blkOf_mem, hk]))
      obtain ⟨cs, h7, h8⟩ := h2.at r hr
      exact ⟨cs, Elt.bytes.weak h7 hD, h8⟩
    · refine RowQ.rdL (E := Elt.list Elt.ver) h3 (fun r hr => ?_) (fun k hk => hF k (by simp [blkOf_mem, hk]))
      obtain ⟨cs, h7, h8⟩ := h4.at r hr
      exact ⟨cs, (Elt.list Elt.ver).weak h7 hD, h8⟩
    · refine RowQ.rdL (E := Elt.nd) h5 (fun r hr => ?_) (fun k hk => hF k (by simp [blkOf_mem, hk]))
      obtain ⟨cs, G, h7, h8, h9⟩ := owns_get h6 r hr
      have hm : n.kids[r] ∈ n.kids := List.getElem_mem hr
      have := wN_kid hm
      exact ⟨cs, own_read N (n := n.kids[r]) (by omega) h7 hD (fun k hk => hF k (by simp [h8 k hk])), h9⟩
end
structure NdAt (D : Nat → Prop) (w : World) (v : Value) (n : Nd) (F : List Nat) : Prop where
  ex : ∃ vs, v = .agg vs.toArray ∧ OwnN D w n vs F
  nodup : F.Nodup
  free : ∀ k ∈ F, ¬ D k
  data : ∀ k, D k → k < w.heap.size
section
variable {D : Nat → Prop} {w w' : World} {v : Value} {n : Nd} {F : List Nat}
theorem NdAt.lt (h : NdAt D w v n F) : ∀ k ∈ F, k < w.heap.size := by
  obtain ⟨vs, _, h1⟩ := h.ex
  exact own_lt n h1
theorem NdAt.keep (h : NdAt D w v n F) (hs : w.heap.size ≤ w'.heap.size) (hk : ∀ k, k < w.heap.size → (D k ∨ k ∈ F) → w'.heap[k]? = w.heap[k]?) : NdAt D w' v n F := by
  obtain ⟨vs, e, h1⟩ := h.ex
  exact ⟨⟨vs, e, own_keep n h1 (fun k hF => hk k (h.lt k hF) (.inr hF)) (fun k hD => hk k (h.data k hD) (.inl hD))⟩, h.nodup, h.free, fun k hD => Nat.lt_of_lt_of_le (h.data k hD) hs⟩
theorem NdAt.below (h : NdAt D w v n F) (hb : Below w.heap.size w w') : NdAt D w' v n F := h.keep hb.size fun k hk _ => hb.block k hk
theorem NdAt.rdN (h : NdAt D w v n F) : RdN (fun k => D k ∨ k ∈ F) w v n := by
  obtain ⟨vs, rfl, h1⟩ := h.ex
  exact RdN.of (own_read (wN n) (Nat.le_refl _) h1 (fun _ h => .inl h) (fun _ h => .inr h))
end
def NdTo (D : Nat → Prop) (w : World) (F : List Nat) (Q : Nd → Prop) (e : Ending) (w' : World) : Prop :=
  ∃ v' n' F', e = .returned v' ∧ Q n' ∧ NdAt D w' v' n' F' ∧ (∀ k ∈ F', k ∈ F ∨ w.heap.size ≤ k) ∧ Trd (· ∈ F) w w'
end Go.Proofs.Yticngbgjfdcnhaa
namespace Go.Proofs.Yticngbgjfdcnhaa
open Go.RowKit
section
variable {P : Program} {T Te : TypeId} {n : Nat} {ops : Array Oper} {rest : List Oper} {o : Oper} {a : Act} {Q : Exit → Act → World → Prop} {w : World} {K : Act → World → Prop}
theorem wpList_makeQ (hP : LoP P T Te n) {x y : Operand} (ho : o.op = .makeSlice T x y) (hgd : Region.wanted o (yielded ops a.tmps) = true) {m : Nat} {i : Int} {kl kc : IntKind} (hx : a.eval x = .int kl 0) (hy : a.eval y = .int kc i) (him : i = (m : Int)) (hm : m ≤ 1073741824)
    (h : ∀ w', RowQ Te n w' (.slice (some ⟨w.heap.size, 0, none⟩) 0 m) 0 [] → Below w.heap.size w w' → wpList P ops Q rest (a.put o.dst (.slice (some ⟨w.heap.size, 0, none⟩) 0 m)) w') : wpList P ops Q (o :: rest) a w := by
  subst him
  refine BigFrame.wpList_want hgd fun K hK => ?_
  obtain ⟨i, z, hi, hz, hsz, hby, hzs⟩ := hP.all
  have hbytes : i.bytes * m ≤ 4096 * 1073741824 := Nat.mul_le_mul hby hm
  have hr := run_make (P := P) w T Te i z hP.hT hi hz kl kc 0 (m : Int) (Int.le_refl _) (by omega) (by
    have : ((i.bytes * m : Nat) : Int) ≤ 281474976710656 := by omega
    rwa [Int.natCast_mul] at this) (by omega)
  simp only [Int.toNat_natCast, Int.toNat_zero] at hr
  unfold Oper.wp execOp
  simp only [ho, hx, hy, Sem.run_bind, Sem.run_pure, Result.andThen_ok, hr]
  exact hK _ _ (h _ (RowQ.of (cur := madeCells z.cells (m * i.size)) (by simp only [World.alloc, Array.getElem?_push_size]) (Nat.zero_le _) (by unfold maxLen; omega) (by rw [size_madeCells, hsz]) (by simp) (fun _ h => by cases h)) ((Below.refl _ _).alloc (Nat.le_refl _) _))
theorem wpList_buildOne (hP : LoP P T Te n) {y : Operand} {v : Value} {us : List Value} (ho : o.op = .buildSlice T 1 #[(0, y)]) (hgd : Region.wanted o (yielded ops a.tmps) = true) (hy : a.eval y = v) (hv : v.cells = us.toArray) (hl : us.length = n) (h0 : 0 < n) (hn : n ≤ 4096)
    (h : ∀ w', w'.heap[w.heap.size]? = some (.cells us.toArray Te (0, 0)) → Below w.heap.size w w' → wpList P ops Q rest (a.put o.dst (.slice (some ⟨w.heap.size, 0, none⟩) 1 1)) w') : wpList P ops Q (o :: rest) a w :=
  BigFrame.wpList_want hgd fun _ hK => wp_buildOne hP ho hy hv hl h0 hn (hK _ _ (h _ (by simp only [World.alloc, Array.getElem?_push_size]) ((Below.refl _ _).alloc (Nat.le_refl _) _)))
end
theorem cnt_none {l : List Ver} (hk : okV l) : cntV l 0 = 0 := by
  have : ∀ k, lastAt l 0 k = 0 := by
    intro k
    induction k with
    | zero => rfl
    | succ k ih =>
      by_cases h : k < l.length
      · rw [lastAt_no h (by have := (hk k h).1.1; omega), ih]
      · unfold lastAt
        rw [dif_neg h, ih]
  exact this _
theorem vac_none (l : List Ver) : vacV l 0 = l := by
  by_cases hk : okV l
  · exact vacV_zero (cnt_none hk)
  · unfold vacV; rw [if_neg hk]
set_option maxRecDepth 100000 in
set_option maxHeartbeats 1000000 in
theorem versions_any (w : World) {S : Nat → Prop} {a : Option Addr} {n c : Nat} {l : List Ver} (hl : RdL Elt.ver S w (.slice a n c) l) (hsm : smallV l) :
    Calls Try.prog 22 #[.slice a n c] w (VersNew w l) := by
  go_enter Try.func22, Try.ntmps22
  go_wp2_with fail
  refine (chVacuum_any w (s := 0) hl hsm).mono ?_
  rw [vac_none]
  rintro e w1 ⟨a1, c1, rfl, h1, h2⟩
  go_wp2_with fail
  go_ret
  exact ⟨a1, c1, rfl, h1, h2⟩
def CpK {α : Type} (E : Elt α) (Te : TypeId) (w : World) (v : Value) (xs : List α) (W : World) : Prop :=
  ∃ us, RowNew Te E.size w v xs.length us W ∧ Flat E (fun k => w.heap.size ≤ k ∧ k < W.heap.size ∧ v.ownBlock ≠ some k) W xs us
theorem CpK.shape {α : Type} {E : Elt α} {Te : TypeId} {w : World} {v : Value} {xs : List α} {W : World} (h : CpK E Te w v xs W) {m : Nat} (hm : xs.length = m) : ∃ ad cp, v = .slice ad m cp ∧ m ≤ cp := by
  obtain ⟨us, h1, _⟩ := h
  obtain ⟨ad, cp, h2, h3, _⟩ := h1.1.shape
  exact ⟨ad, cp, hm ▸ h2, hm ▸ h3⟩
theorem CpK.row {α : Type} {E : Elt α} {Te : TypeId} {w : World} {v : Value} {xs : List α} {W : World} (h : CpK E Te w v xs W) {m : Nat} (hm : xs.length = m) : ∃ vs, RowNew Te E.size w v m vs W ∧ Flat E (fun k => w.heap.size ≤ k ∧ k < W.heap.size ∧ v.ownBlock ≠ some k) W xs vs := by
  obtain ⟨us, h1, h2⟩ := h
  exact ⟨us, hm ▸ h1, h2⟩
theorem CpK.next {α : Type} {E : Elt α} {Te : TypeId} {w : World} {v v' : Value} {xs : List α} {x : α} {us vs : List Value} {W W1 W2 : World} {m : Nat} (hm : xs.length = m) (h1 : RowNew Te E.size w v m vs W) (h2 : Flat E (fun k => w.heap.size ≤ k ∧ k < W.heap.size ∧ v.ownBlock ≠ some k) W xs vs) (hb : Below W.heap.size W W1)
    (hx : E.R (fun k => W.heap.size ≤ k ∧ k < W1.heap.size) W1 x us) (h4 : RowTo Te E.size W1 v (m + 1) (vs ++ us) v' W2) : CpK E Te w v' (xs ++ [x]) W2 := by
  subst hm
  have h3 := h1.below hb
  refine ⟨vs ++ us, by simpa using h3.to h4, ?_⟩
  have hnb : ∀ k, k < W1.heap.size → v.ownBlock ≠ some k → W2.heap[k]? = W1.heap[k]? := fun k hk hn => h4.2.1.block k hk (fun e => hn e.symm)
  have hnew : ∀ k, k < W1.heap.size → v.ownBlock ≠ some k → v'.ownBlock ≠ some k := fun k hk hn e => by
    rcases h4.2.2 with h5 | ⟨q, h5, h6⟩
    · exact hn (by rw [← h5]; exact e)
    · rw [h5] at e; injection e with e; omega
  have hs := h4.2.1.size
  have hWW := hb.size
  refine Flat.append ?_ (Flat.single ?_)
  · refine ((h2.keep (w' := W1) fun k hk => hb.block k hk.2.1).keep (w' := W2) fun k hk => hnb k (by omega) hk.2.2).weak fun k hk => ⟨hk.1, by omega, hnew k (by omega) hk.2.2⟩
  · have hvW : ∀ k, W.heap.size ≤ k → v.ownBlock ≠ some k := fun k hk e => by
      have := h1.1.lt e
      omega
    have hw := h1.2.2.size
    exact E.weak (E.keep hx fun k hk => hnb k hk.2 (hvW k hk.1)) fun k hk => ⟨by omega, by omega, hnew k hk.2 (hvW k hk.1)⟩
set_option maxRecDepth 100000 in
set_option maxHeartbeats 2000000 in
theorem each_k (w : World) {S : Nat → Prop} {a : Option Addr} {n c : Nat} {xs : List (List UInt8)} (hl : RdL Elt.bytes S w (.slice a n c) xs) (hn : n ≤ 1000000) (F : FuncId) (hE : Enters Try.prog F)
    (hF : ∀ (W : World) (r : Nat) (hr : r < xs.length) (A : Option Addr) (C : Nat), Below w.heap.size w W → RdS S W (.slice A xs[r].length C) xs[r] → Calls Try.prog F #[.slice A xs[r].length C] W (fun e W' => ∃ A' C', e = .returned (.slice A' xs[r].length C') ∧ RdS (fun k => W.heap.size ≤ k ∧ k < W'.heap.size) W' (.slice A' xs[r].length C') xs[r] ∧ Below W.heap.size W W')) :
    Calls Try.prog 28 #[.slice a n c, .func (.func F) #[] #[]] w fun e W => ∃ v, e = .returned v ∧ CpK Elt.bytes 32 w v xs W := by
  obtain ⟨rfl, hnc, hcm⟩ := hl.len
  have hlm : xs.length ≤ 1073741824 := by omega
  have hEE := hE
  unfold Enters at hEE
  go_enter Try.func28, Try.ntmps28
  go_upto_region 3 with (go_big_may; first
    | (refine wpList_makeQ kysP rfl rfl rfl rfl rfl hlm ?_; intro w1 hr1 hb1)
    | fail)
  have hc1 : CpK Elt.bytes 32 w (.slice (some ⟨w.heap.size, 0, none⟩) 0 xs.length) (xs.take 0) w1 := ⟨[], ⟨hr1, fun k hk => by simp [Value.ownBlock] at hk; omega, hb1⟩, rfl⟩
  clear hr1
  go_loopw [5, 13] (fun vv iv wr => ∃ k : Nat, k ≤ xs.length ∧ iv = .int .i64 k ∧ CpK Elt.bytes 32 w vv (xs.take k) wr) (fun _ i _ => xs.length - (intOf i).toNat)
  case atStart => exact ⟨0, Nat.zero_le _, rfl, hc1⟩
  case round =>
    clear hc1 hb1
    obtain ⟨k, hk, rfl, hC⟩ := hrel
    have hkl : (xs.take k).length = k := by rw [List.length_take]; omega
    obtain ⟨vs, h1, h2⟩ := hC.row hkl
    have hbw := h1.2.2
    obtain ⟨ad, cp, rfl, hcp⟩ := hC.shape hkl
    rcases Nat.lt_or_ge k xs.length with hlt | hge
    · obtain ⟨b, off, A, C, rfl, hc, hr⟩ := (hl.below hbw).byt k hlt
      have H := Lib.hid hkl
      clear hkl hC
      go_wp2_with fail
      refine (hF wr k hlt A C hbw hr).mono ?_
      rintro e w2 ⟨A', C', rfl, hr2, hb2⟩
      have h3 := (h1.below hb2).1
      go_wp2_with (go_big_may; first
        | (refine wpList_buildOne kysP rfl rfl rfl (us := [.slice A' xs[k].length C']) rfl rfl (by omega) (by omega) ?_; intro w3 hg3 hb3)
        | (refine wpList_appQ kysP (by omega) rfl rfl (v := .slice ad k cp) rfl (h3.below hb3) rfl (m := 1) (cs := [.slice A' xs[k].length C']) rfl (new_cells hg3) (fun u hu => by rw [List.mem_singleton.1 hu]; rfl) (by omega) ?_; intro ad' cap' w4 hR)
        | fail)
      go_roundw
      case rel =>
        refine ⟨k + 1, by omega, by go_num, ?_⟩
        rw [List.take_add_one, List.getElem?_eq_getElem hlt, Option.toList_some]
        refine CpK.next H.out h1 h2 (hb2.trans (hb3.mono hb2.size)) ⟨_, rfl, ?_⟩ hR
        exact (hr2.below hb3).weak fun k hk => ⟨hk.1, Nat.lt_of_lt_of_le hk.2 hb3.size⟩
      case measure => simp [intOf]; omega
    · obtain rfl : k = xs.length := by omega
      rw [List.take_length] at hC
      go_wp2_with fail
      go_ret
      exact ⟨_, rfl, hC⟩
set_option maxRecDepth 100000 in
set_option maxHeartbeats 2000000 in
theorem each_c (w : World) {S : Nat → Prop} {a : Option Addr} {n c : Nat} {xs : List (List Ver)} (hl : RdL (Elt.list Elt.ver) S w (.slice a n c) xs) (hn : n ≤ 1000000) (F : FuncId) (hE : Enters Try.prog F)
    (hF : ∀ (W : World) (r : Nat) (hr : r < xs.length) (A : Option Addr) (C : Nat), Below w.heap.size w W → RdL Elt.ver S W (.slice A xs[r].length C) xs[r] → Calls Try.prog F #[.slice A xs[r].length C] W (fun e W' => ∃ A' C', e = .returned (.slice A' xs[r].length C') ∧ RdL Elt.ver (fun k => W.heap.size ≤ k ∧ k < W'.heap.size) W' (.slice A' xs[r].length C') xs[r] ∧ Below W.heap.size W W')) :
    Calls Try.prog 29 #[.slice a n c, .func (.func F) #[] #[]] w fun e W => ∃ v, e = .returned v ∧ CpK (Elt.list Elt.ver) 37 w v xs W := by
  obtain ⟨rfl, hnc, hcm⟩ := hl.len
  have hlm : xs.length ≤ 1073741824 := by omega
  have hEE := hE
  unfold Enters at hEE
  go_enter Try.func29, Try.ntmps29
  go_upto_region 3 with (go_big_may; first
    | (refine wpList_makeQ chsP rfl rfl rfl rfl rfl hlm ?_; intro w1 hr1 hb1)
    | fail)
  have hc1 : CpK (Elt.list Elt.ver) 37 w (.slice (some ⟨w.heap.size, 0, none⟩) 0 xs.length) (xs.take 0) w1 := ⟨[], ⟨hr1, fun k hk => by simp [Value.ownBlock] at hk; omega, hb1⟩, rfl⟩
  clear hr1
  go_loopw [5, 13] (fun vv iv wr => ∃ k : Nat, k ≤ xs.length ∧ iv = .int .i64 k ∧ CpK (Elt.list Elt.ver) 37 w vv (xs.take k) wr) (fun _ i _ => xs.length - (intOf i).toNat)
  case atStart => exact ⟨0, Nat.zero_le _, rfl, hc1⟩
  case round =>
    clear hc1 hb1
    obtain ⟨k, hk, rfl, hC⟩ := hrel
    have hkl : (xs.take k).length = k := by rw [List.length_take]; omega
    obtain ⟨vs, h1, h2⟩ := hC.row hkl
    have hbw := h1.2.2
    obtain ⟨ad, cp, rfl, hcp⟩ := hC.shape hkl
    rcases Nat.lt_or_ge k xs.length with hlt | hge
    · obtain ⟨b, off, A, C, rfl, hc, hr⟩ := (hl.below hbw).lst k hlt
      have H := Lib.hid hkl
      clear hkl hC
      go_wp2_with fail
      refine (hF wr k hlt A C hbw hr).mono ?_
      rintro e w2 ⟨A', C', rfl, hr2, hb2⟩
      have h3 := (h1.below hb2).1
      go_wp2_with (go_big_may; first
        | (refine wpList_buildOne chsP rfl rfl rfl (us := [.slice A' xs[k].length C']) rfl rfl (by omega) (by omega) ?_; intro w3 hg3 hb3)
        | (refine wpList_appQ chsP (by omega) rfl rfl (v := .slice ad k cp) rfl (h3.below hb3) rfl (m := 1) (cs := [.slice A' xs[k].length C']) rfl (new_cells hg3) (fun u hu => by rw [List.mem_singleton.1 hu]; rfl) (by omega) ?_; intro ad' cap' w4 hR)
        | fail)
      go_roundw
      case rel =>
        refine ⟨k + 1, by omega, by go_num, ?_⟩
        rw [List.take_add_one, List.getElem?_eq_getElem hlt, Option.toList_some]
        refine CpK.next H.out h1 h2 (hb2.trans (hb3.mono hb2.size)) ⟨_, rfl, ?_⟩ hR
        exact (hr2.below hb3).weak fun k hk => ⟨hk.1, Nat.lt_of_lt_of_le hk.2 hb3.size⟩
      case measure => simp [intOf]; omega
    · obtain rfl : k = xs.length := by omega
      rw [List.take_length] at hC
      go_wp2_with fail
      go_ret
      exact ⟨_, rfl, hC⟩
end Go.Proofs.Yticngbgjfdcnhaa
namespace Go.Proofs.Yticngbgjfdcnhaa
open Go.RowKit
section
variable {D D' : Nat → Prop} {w : World}
mutual
theorem own_weak (hD : ∀ k, D k → D' k) : ∀ (n : Nd) {vs : List Value} {F : List Nat}, OwnN D w n vs F → OwnN D' w n vs F
  | .mk ks cs ns, vs, F, h => by
    rw [OwnN] at h ⊢
    obtain ⟨v1, v2, v3, us1, us2, us3, F3, e1, e2, h1, h2, h3, h4, h5, h6⟩ := h
    exact ⟨v1, v2, v3, us1, us2, us3, F3, e1, e2, h1, h2.weak hD, h3, h4.weak hD, h5, owns_weak hD ns h6⟩
theorem owns_weak (hD : ∀ k, D k → D' k) : ∀ (ns : List Nd) {vs : List Value} {F : List Nat}, OwnNs D w ns vs F → OwnNs D' w ns vs F
  | [], vs, F, h => by rw [OwnNs] at h ⊢; exact h
  | n :: ns, vs, F, h => by
    rw [OwnNs] at h ⊢
    obtain ⟨us, ws, F1, F2, e1, e2, h1, h2⟩ := h
    exact ⟨us, ws, F1, F2, e1, e2, own_weak hD n h1, owns_weak hD ns h2⟩
end
end
def NewNd (w : World) (n : Nd) (v : Value) (W : World) : Prop :=
  ∃ F, NdAt (fun k => w.heap.size ≤ k ∧ k < W.heap.size ∧ k ∉ F) W v n F ∧ (∀ k ∈ F, w.heap.size ≤ k) ∧ Below w.heap.size w W
def CpN (w : World) (v : Value) (xs : List Nd) (W : World) : Prop :=
  ∃ us F, RowNew 28 3 w v xs.length us W ∧ OwnNs (fun k => w.heap.size ≤ k ∧ k < W.heap.size ∧ k ∉ F ∧ v.ownBlock ≠ some k) W xs us F ∧ F.Nodup ∧ ∀ k ∈ F, w.heap.size ≤ k ∧ v.ownBlock ≠ some k
theorem CpN.shape {w : World} {v : Value} {xs : List Nd} {W : World} (h : CpN w v xs W) {m : Nat} (hm : xs.length = m) : ∃ ad cp, v = .slice ad m cp ∧ m ≤ cp := by
  obtain ⟨us, F, h1, _⟩ := h
  obtain ⟨ad, cp, h2, h3, _⟩ := h1.1.shape
  exact ⟨ad, cp, hm ▸ h2, hm ▸ h3⟩
theorem CpN.next {w : World} {v v' xv : Value} {xs : List Nd} {x : Nd} {us vs : List Value} {F : List Nat} {W W1 W2 W3 : World} {m : Nat} (hm : xs.length = m) (h1 : RowNew 28 3 w v m vs W) (h2 : OwnNs (fun k => w.heap.size ≤ k ∧ k < W.heap.size ∧ k ∉ F ∧ v.ownBlock ≠ some k) W xs vs F)
    (hF : F.Nodup) (hF2 : ∀ k ∈ F, w.heap.size ≤ k ∧ v.ownBlock ≠ some k) (hx : NewNd W x xv W1) (hxu : xv = .agg us.toArray) (hb : Below W1.heap.size W1 W2) (h4 : RowTo 28 3 W2 v (m + 1) (vs ++ us) v' W3) : CpN w v' (xs ++ [x]) W3 := by
  subst hm
  obtain ⟨G, hG1, hG2, hb1⟩ := hx
  obtain ⟨us', e, hG3⟩ := hG1.ex
  rw [hxu] at e
  obtain rfl : us' = us := by injection e with e; simpa using congrArg Array.toList e.symm
  have hb2 : Below W.heap.size W W2 := hb1.trans (hb.mono hb1.size)
  have h3 := h1.below hb2
  have s1 := hb1.size
  have s2 := hb.size
  have s3 := h4.2.1.size
  have s0 := h1.2.2.size
  have hFW := owns_lt xs h2
  have hGW := own_lt x hG3
  have hvW : ∀ k, W.heap.size ≤ k → v.ownBlock ≠ some k := fun k hk e => by
    have := h1.1.lt e
    omega
  have hk3 : ∀ k, k < W2.heap.size → v.ownBlock ≠ some k → W3.heap[k]? = W2.heap[k]? := fun k hk hn => h4.2.1.block k hk (fun e => hn e.symm)
  have hnew : ∀ k, k < W2.heap.size → v.ownBlock ≠ some k → v'.ownBlock ≠ some k := fun k hk hn e => by
    rcases h4.2.2 with h5 | ⟨q, h5, h6⟩
    · exact hn (by rw [← h5]; exact e)
    · rw [h5] at e; injection e with e; omega
  refine ⟨vs ++ us', F ++ G, by simpa using h3.to h4, owns_append ?_ (owns_one.2 ?_), ?_, ?_⟩
  · refine owns_weak (D := fun k => w.heap.size ≤ k ∧ k < W.heap.size ∧ k ∉ F ∧ v.ownBlock ≠ some k) (fun k hk => ⟨hk.1, by omega, fun hm => ?_, hnew k (by omega) hk.2.2.2⟩) xs (owns_keep (w := W) xs h2 (fun k hk => ?_) fun k hk => ?_)
    · exact (hk3 k (by have := hFW k hk; omega) (hF2 k hk).2).trans (hb2.block k (hFW k hk))
    · exact (hk3 k (by omega) hk.2.2.2).trans (hb2.block k hk.2.1)
    · rcases List.mem_append.1 hm with h | h
      · exact hk.2.2.1 h
      · have := hG2 k h; omega
  · refine own_weak (D := fun k => W.heap.size ≤ k ∧ k < W1.heap.size ∧ k ∉ G) (fun k hk => ⟨by omega, by omega, fun hm => ?_, hnew k (by omega) (hvW k hk.1)⟩) x (own_keep (w := W1) x hG3 (fun k hk => ?_) fun k hk => ?_)
    · exact (hk3 k (by have := hGW k hk; omega) (hvW k (hG2 k hk))).trans (hb.block k (hGW k hk))
    · exact (hk3 k (by omega) (hvW k hk.1)).trans (hb.block k hk.2.1)
    · rcases List.mem_append.1 hm with h | h
      · have := hFW k h; omega
      · exact hk.2.2 h
  · rw [List.nodup_append]
    exact ⟨hF, hG1.nodup, fun a ha b hb e => by have := hFW a ha; have := hG2 b hb; omega⟩
  · intro k hk
    rcases List.mem_append.1 hk with h | h
    · have := hFW k h
      exact ⟨(hF2 k h).1, hnew k (by omega) (hF2 k h).2⟩
    · have h5 := hG2 k h
      have := hGW k h
      exact ⟨by omega, hnew k (by omega) (hvW k h5)⟩
section
variable {ops : Array Oper} {rest : List Oper} {o : Oper} {a : Act} {Q : Exit → Act → World → Prop} {w : World} {K : Act → World → Prop}
theorem wpList_allocT (ho : o.op = .alloc 28) (hgd : Region.wanted o (yielded ops a.tmps) = true) (h : ∀ w', Below w.heap.size w w' → TriV w' w.heap.size 28 (.slice none 0 0) (.slice none 0 0) (.slice none 0 0) → wpList Try.prog ops Q rest (a.put o.dst (.pointer (some ⟨w.heap.size, 0, none⟩))) w') : wpList Try.prog ops Q (o :: rest) a w :=
  BigFrame.wpList_want hgd fun _ hK => wp_allocN ho fun w' h1 h2 => hK _ _ (h w' h1 h2)
theorem wp_storeT {x y : Operand} {b : Nat} {u v r p q s : Value} (ho : o.op = .store 28 x y) (hx : a.eval x = .pointer (some ⟨b, 0, none⟩)) (hy : a.eval y = .agg #[u, v, r]) (hu1 : u.oneCell' = true) (hv1 : v.oneCell' = true) (hr1 : r.oneCell' = true)
    (t0 : TriV w b 28 p q s) (h : ∀ w', w.grownBy w' (some b) → TriV w' b 28 u v r → K (a.put o.dst undef) w') : o.wp Try.prog a w K Q := by
  have hs : (Try.prog.info? 28).map (·.size) = some 3 := ndS.hs
  have g0 : ∀ (W : World) (j : Nat) (e : Value) (p q s : Value), TriV W b 28 p q s → W.frozen? ⟨b, j, none⟩ = false := fun W j e p q s h => by simp [World.frozen?, show W.heap[b]? = _ from h]
  have t1 : TriV (w.setCell ⟨b, 0, none⟩ u) b 28 u q s := by
    unfold TriV at t0 ⊢
    simp only [World.setCell, Array.getElem?_modify, t0]
    simp
  have t2 : TriV ((w.setCell ⟨b, 0, none⟩ u).setCell ⟨b, 1, none⟩ v) b 28 u v s := by
    unfold TriV at t1 ⊢
    rw [World.setCell]
    simp only [Array.getElem?_modify, t1]
    simp
  have t3 : TriV (((w.setCell ⟨b, 0, none⟩ u).setCell ⟨b, 1, none⟩ v).setCell ⟨b, 2, none⟩ r) b 28 u v r := by
    unfold TriV at t2 ⊢
    rw [World.setCell]
    simp only [Array.getElem?_modify, t2]
    simp
  have hg : w.grownBy (((w.setCell ⟨b, 0, none⟩ u).setCell ⟨b, 1, none⟩ v).setCell ⟨b, 2, none⟩ r) (some b) := ⟨rfl, rfl, rfl, by simp [World.setCell], fun k _ hk => by
    have hkb : k ≠ b := fun e => hk (by rw [e])
    exact (heap_setCell_other _ ⟨b, 2, none⟩ k r hkb).trans ((heap_setCell_other _ ⟨b, 1, none⟩ k v hkb).trans (heap_setCell_other _ ⟨b, 0, none⟩ k u hkb))⟩
  refine wp_skip ?_ (h _ hg t3)
  simp only [execOp, ho, hx, hy]
  simp [Instr.storeAt, storeVar, run_sizeOf hs, storeCells, Value.cells, run_store _ _ _ _ _ hu1, run_store _ _ _ _ _ hv1, run_store _ _ _ _ _ hr1, t0.cell0, t1.cell1, t2.cell2, g0 _ _ u _ _ _ t0, g0 _ _ u _ _ _ t1, g0 _ _ u _ _ _ t2, Addr.add, go_sem]
theorem wpList_storeT {x y : Operand} {b : Nat} {u v r p q s : Value} (ho : o.op = .store 28 x y) (hd : o.dst = none) (hgd : Region.wanted o (yielded ops a.tmps) = true) (hx : a.eval x = .pointer (some ⟨b, 0, none⟩)) (hy : a.eval y = .agg #[u, v, r]) (hu1 : u.oneCell' = true) (hv1 : v.oneCell' = true) (hr1 : r.oneCell' = true)
    (t0 : TriV w b 28 p q s) (h : ∀ w', w.grownBy w' (some b) → TriV w' b 28 u v r → wpList Try.prog ops Q rest a w') : wpList Try.prog ops Q (o :: rest) a w :=
  BigFrame.wpList_want hgd fun _ hK => wp_storeT ho hx hy hu1 hv1 hr1 t0 fun w' h1 h2 => hK _ _ (by rw [hd]; exact h w' h1 h2)
end
set_option maxRecDepth 100000 in
set_option maxHeartbeats 2000000 in
theorem each_n (w : World) {S : Nat → Prop} {a : Option Addr} {n c : Nat} {xs : List Nd} (hl : RdL Elt.nd S w (.slice a n c) xs) (hn : n ≤ 1000000) (F : FuncId) (hE : Enters Try.prog F)
    (hF : ∀ (W : World) (r : Nat) (hr : r < xs.length) (v : Value), Below w.heap.size w W → RdN S W v xs[r] → Calls Try.prog F #[v] W (fun e W' => ∃ v', e = .returned v' ∧ NewNd W xs[r] v' W')) :
    Calls Try.prog 30 #[.slice a n c, .func (.func F) #[] #[]] w fun e W => ∃ v, e = .returned v ∧ CpN w v xs W := by
  obtain ⟨rfl, hnc, hcm⟩ := hl.len
  have hlm : xs.length ≤ 1073741824 := by omega
  have hEE := hE
  unfold Enters at hEE
  go_enter Try.func30, Try.ntmps30
  go_upto_region 3 with (go_big_may; first
    | (refine wpList_makeQ ndP rfl rfl rfl rfl rfl hlm ?_; intro w1 hr1 hb1)
    | fail)
  have hc1 : CpN w (.slice (some ⟨w.heap.size, 0, none⟩) 0 xs.length) (xs.take 0) w1 := ⟨[], [], ⟨hr1, fun k hk => by simp [Value.ownBlock] at hk; omega, hb1⟩, owns_nil, List.nodup_nil, fun _ h => by cases h⟩
  clear hr1
  go_loopw [5, 13] (fun vv iv wr => ∃ k : Nat, k ≤ xs.length ∧ iv = .int .i64 k ∧ CpN w vv (xs.take k) wr) (fun _ i _ => xs.length - (intOf i).toNat)
  case atStart => exact ⟨0, Nat.zero_le _, rfl, hc1⟩
  case round =>
    clear hc1 hb1
    obtain ⟨k, hk, rfl, hC⟩ := hrel
    have hkl : (xs.take k).length = k := by rw [List.length_take]; omega
    obtain ⟨ad, cp, rfl, hcp⟩ := hC.shape hkl
    obtain ⟨vs, F1, h1, h2, h3, h4⟩ := hC
    rw [hkl] at h1
    have hbw := h1.2.2
    rcases Nat.lt_or_ge k xs.length with hlt | hge
    · obtain ⟨b, off, a1, c1, a2, c2, a3, c3, rfl, hc0, hc1, hc2, hr⟩ := (hl.below hbw).kid k hlt
      have H := Lib.hid hkl
      clear hkl
      go_wp2_with (go_big_may; first
        | (refine wpList_allocT rfl rfl ?_; intro w2 hb2 ht2)
        | (refine wpList_storeT rfl rfl rfl rfl rfl rfl rfl rfl ht2 ?_; intro w3 hg3 ht3; have ht30 := ht3.cell0; have ht31 := ht3.cell1; have ht32 := ht3.cell2)
        | fail)
      have hb3 : Below wr.heap.size wr w3 := hb2.grown hg3 hb2.size fun k hk => by injection hk with hk; omega
      have q3 := hbw.trans (hb3.mono hbw.size)
      refine (hF w3 k hlt _ q3 (hr.below hb3)).mono ?_
      rintro e w4 ⟨v4, rfl, hN⟩
      obtain ⟨G, hG1, hG2, hb4⟩ := hN
      obtain ⟨us4, rfl, hG3⟩ := hG1.ex
      have hN : NewNd w3 xs[k] (.agg us4.toArray) w4 := ⟨G, hG1, hG2, hb4⟩
      have h1' := h1.below hb3
      have h5 := (h1'.below hb4).1
      have hul := own_len hG3
      have huo := (own_read (wN xs[k]) (Nat.le_refl _) hG3 (S := fun _ => True) (fun _ _ => trivial) (fun _ _ => trivial))
      have huo := Elt.nd.one huo
      have huc : (Value.agg us4.toArray).cells = us4.toArray := rfl
      clear ht30 ht31 ht32
      go_wp2_with (go_big_may; first
        | (refine wpList_buildOne ndP rfl rfl rfl (us := us4) huc hul (by omega) (by omega) ?_; intro w5 hg5 hb5)
        | (refine wpList_appQ ndP (by omega) rfl rfl (v := .slice ad k cp) rfl (h5.below hb5) rfl (m := 1) (cs := us4) (by rw [hul]) (new_cells hg5) huo (by omega) ?_; intro ad' cap' w6 hR)
        | fail)
      go_roundw
      case rel =>
        refine ⟨k + 1, by omega, by go_num, ?_⟩
        rw [List.take_add_one, List.getElem?_eq_getElem hlt, Option.toList_some]
        refine CpN.next H.out h1' ?_ h3 h4 hN rfl hb5 hR
        exact owns_weak (fun k hk => ⟨hk.1, Nat.lt_of_lt_of_le hk.2.1 hb3.size, hk.2.2⟩) _ (owns_keep _ h2 (fun k hk => hb3.block k (owns_lt _ h2 k hk)) fun k hk => hb3.block k hk.2.1)
      case measure => simp [intOf]; omega
    · obtain rfl : k = xs.length := by omega
      rw [List.take_length] at h2
      go_wp2_with fail
      go_ret
      exact ⟨_, rfl, vs, F1, h1, h2, h3, h4⟩
end Go.Proofs.Yticngbgjfdcnhaa
namespace Go.Proofs.Yticngbgjfdcnhaa
open Go.RowKit
theorem triBoxes2 (w : World) (t : TypeId) (u v r u' v' r' : Value) : ∃ W, W = (w.alloc (.cells #[u, v, r] t)).alloc (.cells #[u', v', r'] t) ∧ Below w.heap.size w W ∧ TriV W w.heap.size t u v r ∧ TriV W (w.heap.size + 1) t u' v' r' ∧ W.heap.size = w.heap.size + 1 + 1 := by
  have h1 : Below w.heap.size w (w.alloc (.cells #[u, v, r] t)) := (Below.refl _ _).alloc (Nat.le_refl _) _
  have s1 : (w.alloc (.cells #[u, v, r] t)).heap.size = w.heap.size + 1 := World.size_alloc _ _
  have b1 := TriV.new w t u v r
  generalize w.alloc (.cells #[u, v, r] t) = w1 at *
  have h2 : Below w1.heap.size w1 (w1.alloc (.cells #[u', v', r'] t)) := (Below.refl _ _).alloc (Nat.le_refl _) _
  have s2 : (w1.alloc (.cells #[u', v', r'] t)).heap.size = w1.heap.size + 1 := World.size_alloc _ _
  have b2 := TriV.new w1 t u' v' r'
  rw [s1] at b2 s2
  exact ⟨_, rfl, h1.trans (h2.mono h1.size), b1.below h2 b1.lt, b2, s2⟩
theorem CpK.below {α : Type} {E : Elt α} {Te : TypeId} {w : World} {v : Value} {xs : List α} {W W' : World} (h : CpK E Te w v xs W) (hb : Below W.heap.size W W') : CpK E Te w v xs W' := by
  obtain ⟨us, h1, h2⟩ := h
  exact ⟨us, h1.below hb, (h2.keep fun k hk => hb.block k hk.2.1).weak fun k hk => ⟨hk.1, Nat.lt_of_lt_of_le hk.2.1 hb.size, hk.2.2⟩⟩
theorem CpN.below {w : World} {v : Value} {xs : List Nd} {W W' : World} (h : CpN w v xs W) (hb : Below W.heap.size W W') : CpN w v xs W' := by
  obtain ⟨us, F, h1, h2, h3, h4⟩ := h
  refine ⟨us, F, h1.below hb, ?_, h3, h4⟩
  exact owns_weak (fun k hk => ⟨hk.1, Nat.lt_of_lt_of_le hk.2.1 hb.size, hk.2.2⟩) _ (owns_keep _ h2 (fun k hk => hb.block k (owns_lt _ h2 k hk)) fun k hk => hb.block k hk.2.1)
def NewFrom (lo : Nat) (W : World) (n : Nd) (v : Value) : Prop := ∃ F, NdAt (fun k => lo ≤ k ∧ k < W.heap.size ∧ k ∉ F) W v n F ∧ ∀ k ∈ F, lo ≤ k
theorem NewFrom.keep {lo : Nat} {W W' : World} {n : Nd} {v : Value} (h : NewFrom lo W n v) (hs : W.heap.size ≤ W'.heap.size) (hk : ∀ k, lo ≤ k → k < W.heap.size → W'.heap[k]? = W.heap[k]?) : NewFrom lo W' n v := by
  obtain ⟨F, h1, h2⟩ := h
  obtain ⟨vs, e, h3⟩ := h1.ex
  have hF := own_lt n h3
  refine ⟨F, ⟨⟨vs, e, own_weak (fun k hk => ⟨hk.1, Nat.lt_of_lt_of_le hk.2.1 hs, hk.2.2⟩) n (own_keep n h3 (fun k hm => hk k (h2 k hm) (hF k hm)) fun k hd => hk k hd.1 hd.2.1)⟩, h1.nodup, fun k hm hd => hd.2.2 hm, fun k hd => hd.2.1⟩, h2⟩
theorem NewFrom.of {w1 Wa Wb W : World} {n : Nd} {a b c : Value} (ha : CpK Elt.bytes 32 w1 a n.keys Wa) (hb : CpK (Elt.list Elt.ver) 37 Wa b n.chains Wb) (hc : CpN Wb c n.kids W) : NewFrom w1.heap.size W n (.agg #[a, b, c]) := by
  obtain ⟨ua, ha1, ha2⟩ := ha
  obtain ⟨ub, hb1, hb2⟩ := hb
  obtain ⟨uc, F, hc1, hc2, hc3, hc4⟩ := hc
  have sa := ha1.2.2.size
  have sb := hb1.2.2.size
  have sc := hc1.2.2.size
  have qa : ∀ k, k < Wa.heap.size → W.heap[k]? = Wa.heap[k]? := fun k hk => (hc1.2.2.block k (by omega)).trans (hb1.2.2.block k hk)
  have qb : ∀ k, k < Wb.heap.size → W.heap[k]? = Wb.heap[k]? := fun k hk => hc1.2.2.block k hk
  have hF := owns_lt _ hc2
  have la : ∀ k, a.ownBlock = some k → w1.heap.size ≤ k ∧ k < Wa.heap.size := fun k hk => ⟨ha1.2.1 k hk, ha1.1.lt hk⟩
  have lb : ∀ k, b.ownBlock = some k → Wa.heap.size ≤ k ∧ k < Wb.heap.size := fun k hk => ⟨hb1.2.1 k hk, hb1.1.lt hk⟩
  have lc : ∀ k, c.ownBlock = some k → Wb.heap.size ≤ k ∧ k < W.heap.size := fun k hk => ⟨hc1.2.1 k hk, hc1.1.lt hk⟩
  have lF : ∀ k ∈ F, Wb.heap.size ≤ k ∧ k < W.heap.size := fun k hk => ⟨(hc4 k hk).1, hF k hk⟩
  have hm : ∀ k, k ∈ blkOf a ++ blkOf b ++ blkOf c ++ F ↔ (a.ownBlock = some k ∨ b.ownBlock = some k ∨ c.ownBlock = some k ∨ k ∈ F) := fun k => by
    simp only [List.mem_append, blkOf_mem]
    constructor
    · rintro (((h | h) | h) | h)
      · exact .inl h
      · exact .inr (.inl h)
      · exact .inr (.inr (.inl h))
      · exact .inr (.inr (.inr h))
    · rintro (h | h | h | h)
      · exact .inl (.inl (.inl h))
      · exact .inl (.inl (.inr h))
      · exact .inl (.inr h)
      · exact .inr h
  refine ⟨blkOf a ++ blkOf b ++ blkOf c ++ F, ⟨⟨[a, b, c], rfl, ?_⟩, ?_, fun k hk hd => hd.2.2 hk, fun k hd => hd.2.1⟩, fun k hk => ?_⟩
  · rw [OwnN_def]
    refine ⟨a, b, c, ua, ub, uc, F, rfl, rfl, ha1.1.kept fun k hk => qa k (la k hk).2, (ha2.keep fun k hk => qa k hk.2.1).weak fun k hk => ⟨hk.1, by omega, ?_⟩, hb1.1.kept fun k hk => qb k (lb k hk).2, (hb2.keep fun k hk => qb k hk.2.1).weak fun k hk => ⟨by omega, by omega, ?_⟩, hc1.1, owns_weak (fun k hk => ⟨by omega, hk.2.1, ?_⟩) _ hc2⟩
    · rw [hm]
      rintro (h | h | h | h)
      · exact hk.2.2 h
      · have := lb k h; omega
      · have := lc k h; omega
      · have := lF k h; omega
    · rw [hm]
      rintro (h | h | h | h)
      · have := la k h; omega
      · exact hk.2.2 h
      · have := lc k h; omega
      · have := lF k h; omega
    · rw [hm]
      rintro (h | h | h | h)
      · have := la k h; omega
      · have := lb k h; omega
      · exact hk.2.2.2 h
      · exact hk.2.2.1 h
  · simp only [List.nodup_append, blkOf_nodup, hc3, List.mem_append, blkOf_mem, true_and]
    refine ⟨⟨fun x hx y hy e => ?_, fun x hx y hy e => ?_⟩, fun x hx y hy e => ?_⟩
    · have := la x hx; have := lb y hy; omega
    · have := lc y hy
      rcases hx with hx | hx
      · have := la x hx; omega
      · have := lb x hx; omega
    · subst e
      rcases hx with (hx | hx) | hx
      · have := la x hx; have := lF x hy; omega
      · have := lb x hx; have := lF x hy; omega
      · exact (hc4 x hy).2 hx
  · rw [hm] at hk
    rcases hk with h | h | h | h
    · exact (la k h).1
    · have := lb k h; omega
    · have := lc k h; omega
    · have := lF k h; omega
def CopiedAt (N : Nat) : Prop := ∀ (n : Nd) (w : World) {S : Nat → Prop} {v : Value}, wN n ≤ N → wN n ≤ 100000 → bndN n → RdN S w v n → Calls Try.prog 15 #[v] w fun e W => ∃ v', e = .returned v' ∧ NewNd w n v' W
def CopJ (w1 : World) (n : Nd) (bx : Nat) : List Value → World → Prop
  | [], W => Below w1.heap.size w1 W
  | [a], W => CpK Elt.bytes 32 w1 a n.keys W
  | [a, b], W => ∃ Wa, CpK Elt.bytes 32 w1 a n.keys Wa ∧ CpK (Elt.list Elt.ver) 37 Wa b n.chains W
  | [a, b, c], W => ∃ Wa Wb, CpK Elt.bytes 32 w1 a n.keys Wa ∧ CpK (Elt.list Elt.ver) 37 Wa b n.chains Wb ∧ CpN Wb c n.kids W
  | _, W => ∃ x y z, TriV W bx 28 x y z ∧ NewFrom w1.heap.size W n (.agg #[x, y, z]) ∧ Trd (· = bx) w1 W
theorem CpK.from {α : Type} {E : Elt α} {Te : TypeId} {w0 w : World} {v : Value} {xs : List α} {W : World} (h : CpK E Te w v xs W) (hb : Below w0.heap.size w0 w) : CpK E Te w0 v xs W := by
  obtain ⟨us, h1, h2⟩ := h
  exact ⟨us, ⟨h1.1, fun k hk => Nat.le_trans hb.size (h1.2.1 k hk), hb.trans (h1.2.2.mono hb.size)⟩, h2.weak fun k hk => ⟨Nat.le_trans hb.size hk.1, hk.2⟩⟩
theorem NewFrom.tri {lo : Nat} {W : World} {n : Nd} {v : Value} (h : NewFrom lo W n v) : ∃ x y z, v = .agg #[x, y, z] ∧ (x.oneCell' = true ∧ y.oneCell' = true ∧ z.oneCell' = true) ∧ x.cells = #[x] ∧ y.cells = #[y] ∧ z.cells = #[z] := by
  obtain ⟨F, h1, _⟩ := h
  obtain ⟨vs, rfl, h2⟩ := h1.ex
  rw [OwnN_def] at h2
  obtain ⟨x, y, z, _, _, _, _, rfl, _, h3, _, h4, _, h5, _⟩ := h2
  obtain ⟨_, _, rfl, _⟩ := h3.shape
  obtain ⟨_, _, rfl, _⟩ := h4.shape
  obtain ⟨_, _, rfl, _⟩ := h5.shape
  exact ⟨_, _, _, rfl, ⟨rfl, rfl, rfl⟩, rfl, rfl, rfl⟩
theorem NewFrom.nd {w W : World} {lo : Nat} {n : Nd} {v : Value} (h : NewFrom lo W n v) (hlo : w.heap.size ≤ lo) (hb : Below w.heap.size w W) : NewNd w n v W := by
  obtain ⟨F, h1, h2⟩ := h
  obtain ⟨vs, e, h3⟩ := h1.ex
  exact ⟨F, ⟨⟨vs, e, own_weak (fun k hk => ⟨by omega, hk.2⟩) n h3⟩, h1.nodup, fun k hm hd => hd.2.2 hm, fun k hd => hd.2.1⟩, fun k hk => Nat.le_trans hlo (h2 k hk), hb⟩
theorem CpK.base {α : Type} {E : Elt α} {Te : TypeId} {w : World} {v : Value} {xs : List α} {W : World} (h : CpK E Te w v xs W) : Below w.heap.size w W := by
  obtain ⟨us, h1, _⟩ := h
  exact h1.2.2
theorem CpN.base {w : World} {v : Value} {xs : List Nd} {W : World} (h : CpN w v xs W) : Below w.heap.size w W := by
  obtain ⟨us, F, h1, _⟩ := h
  exact h1.2.2
theorem CopJ.trd {w1 : World} {n : Nd} {bx : Nat} : ∀ {l : List Value} {W : World}, CopJ w1 n bx l W → Trd (· = bx) w1 W
  | [], _, h => Trd.of h
  | [_], _, h => Trd.of (CpK.base h)
  | [_, _], _, ⟨_, h1, h2⟩ => Trd.of (h1.base.trans (h2.base.mono h1.base.size))
  | [_, _, _], _, ⟨_, _, h1, h2, h3⟩ => Trd.of ((h1.base.trans (h2.base.mono h1.base.size)).trans (h3.base.mono (h1.base.trans (h2.base.mono h1.base.size)).size))
  | _ :: _ :: _ :: _ :: _, _, ⟨_, _, _, _, _, h⟩ => h
theorem CopJ.below {w1 : World} {n : Nd} {bx : Nat} : ∀ (l : List Value) (W W' : World), CopJ w1 n bx l W → Below W.heap.size W W' → CopJ w1 n bx l W'
  | [], _, _, h, hb => Below.trans h (hb.mono (Below.size h))
  | [_], _, _, h, hb => CpK.below h hb
  | [_, _], _, _, ⟨Wa, h1, h2⟩, hb => ⟨Wa, h1, h2.below hb⟩
  | [_, _, _], _, _, ⟨Wa, Wb, h1, h2, h3⟩, hb => ⟨Wa, Wb, h1, h2, h3.below hb⟩
  | _ :: _ :: _ :: _ :: _, _, _, ⟨x, y, z, h1, h2, h3⟩, hb => ⟨x, y, z, h1.below hb h1.lt, h2.keep hb.size fun k _ hk => hb.block k hk, h3.trans (Trd.of (F := (· = bx)) hb) fun _ _ h => h⟩
def cNew (w1 : World) (n : Nd) (bx : Nat) (hbx : bx < w1.heap.size) : SGn (fun A B => Trd (· = bx) A B) :=
  ⟨fun W v => NewFrom w1.heap.size W n v, fun _ _ _ h hb => h.keep hb.size fun k _ hk => hb.block k hk, fun _ _ _ h hk => h.keep hk.size fun k hl hlt => hk.block k hlt (by omega)⟩
set_option maxRecDepth 100000 in
set_option maxHeartbeats 4000000 in
theorem copied_step (N : Nat) (ih : CopiedAt N) : CopiedAt (N + 1) := by
  intro n w S v hN hbig hbd hr
  unfold CopiedAt at ih
  have hwp := wN_parts n
  obtain ⟨hbk, hbc, hbn⟩ := (bndN_def n).1 hbd
  obtain ⟨a1, c1, a2, c2, a3, c3, rfl, r1, r2, r3⟩ := hr
  obtain ⟨W, hW, q, bn, bz, hsz⟩ := triBoxes2 w 28 (.slice a1 n.keys.length c1) (.slice a2 n.chains.length c2) (.slice a3 n.kids.length c3) (.slice none 0 0) (.slice none 0 0) (.slice none 0 0)
  have ekk : ∀ args w, (callFunc 28 args).run Try.prog w = .ok (.enter 28 args) w := enters_of Try.func28 (by kernel_rfl) rfl
  have ekc : ∀ args w, (callFunc 29 args).run Try.prog w = .ok (.enter 29 args) w := enters_of Try.func29 (by kernel_rfl) rfl
  have ekn : ∀ args w, (callFunc 30 args).run Try.prog w = .ok (.enter 30 args) w := enters_of Try.func30 (by kernel_rfl) rfl
  have ef1 : Enters Try.prog 21 := enters_of Try.func21 (by kernel_rfl) rfl
  have ef2 : Enters Try.prog 22 := enters_of Try.func22 (by kernel_rfl) rfl
  have ef3 : Enters Try.prog 15 := enters_of Try.func15 (by kernel_rfl) rfl
  go_enter Try.func15, Try.ntmps15
  go_upto_region 1 with (fail)
  rw [← hW]
  clear hW
  have hbx : w.heap.size + 1 < W.heap.size := by omega
  have r1' := r1.below q
  have r2' := r2.below q
  have r3' := r3.below q
  have hRD : ∀ l W', CopJ W n (w.heap.size + 1) l W' → TriV W' w.heap.size 28 (.slice a1 n.keys.length c1) (.slice a2 n.chains.length c2) (.slice a3 n.kids.length c3) := fun l W' h => (h.trd.block _ (by omega) (by omega)).trans bn
  refine wp_region_lnl (K := fun A B => Trd (· = w.heap.size + 1) A B) (by kernel_rfl) (by kernel_rfl) [2, 5, 8, 10] (by kernel_rfl) [lEq (.pointer (some ⟨w.heap.size, 0 + 0, none⟩)), lEq (.slice a1 n.keys.length c1), lAny, lEq (.pointer (some ⟨w.heap.size, 0 + 1, none⟩)), lEq (.slice a2 n.chains.length c2), lAny, lEq (.pointer (some ⟨w.heap.size, 0 + 2, none⟩)), lEq (.slice a3 n.kids.length c3), lAny, cNew W n (w.heap.size + 1) hbx, lAny] (CopJ W n (w.heap.size + 1)) CopJ.below (show Below W.heap.size W W from Below.refl _ _)
    ⟨?o0, ?o1, ?o2, ?o3, ?o4, ?o5, ?o6, ?o7, ?o8, ?o9, ?o10, trivial⟩ ?fin
  case o0 =>
    refine LnOp.side rfl (by kernel_rfl) (fun A va w' k hF hT hk hJ hb hu hp hd => ?_)
    have e1 : A.eval (.tmp 1) = .pointer (some ⟨w.heap.size, 0, none⟩) := hF 1 rfl
    exact wp_fieldN ndS rfl (e1) (by omega) ⟨_, rfl, rfl, Below.refl _ _⟩
  case o1 =>
    refine LnOp.side rfl (by kernel_rfl) (fun A va w' k hF hT hk hJ hb hu hp hd => ?_)
    have e1 : A.eval (.tmp 3) = .pointer (some ⟨w.heap.size, 0 + 0, none⟩) := (hT 3 0 (by simp) rfl).trans (hd ⟨0, .data⟩ (by simp) rfl rfl)
    exact wp_ld_slice (e := 32) rfl (e1) (by kernel_rfl) ((hRD _ _ hJ).cell0) ⟨_, rfl, rfl, Below.refl _ _⟩
  case o2 =>
    refine LnOp.line 0 rfl rfl (fun A va w' hF hT hJ hu hd => ?_)
    have e1 : A.eval (.tmp 4) = .slice a1 n.keys.length c1 := (hT 4 1 (by simp) rfl).trans (hd ⟨1, .data⟩ (by simp) rfl rfl)
    refine wp_callFn rfl ekk (by simp only [List.map_toArray, List.map_cons, List.map_nil, e1, BigFrame.eval_func]) ((each_k w' (r1'.below hJ) (by omega) 21 ef1 (fun W3 r hr A C hb3 hrd => ?_)).mono ?_)
    · refine (clone_any W3 hrd.rd (Nat.le_refl _) (by have := hbk _ (List.getElem_mem hr); omega)).mono ?_
      rintro e W4 ⟨ad', k', c', rfl, hf⟩
      have hrs := hf.2.rdS
      obtain ⟨rfl, _, _⟩ := hrs.len
      exact ⟨_, _, rfl, hrs, hf.1⟩
    · rintro e W4 ⟨v, rfl, hc⟩
      have hJ' : Below W.heap.size W w' := hJ
      exact ⟨_, rfl, _, rfl, hc.from hJ', Trd.of hc.base⟩
  case o3 =>
    refine LnOp.side rfl (by kernel_rfl) (fun A va w' k hF hT hk hJ hb hu hp hd => ?_)
    have e1 : A.eval (.tmp 1) = .pointer (some ⟨w.heap.size, 0, none⟩) := hF 1 rfl
    exact wp_fieldN ndS rfl (e1) (by omega) ⟨_, rfl, rfl, Below.refl _ _⟩
  case o4 =>
    refine LnOp.side rfl (by kernel_rfl) (fun A va w' k hF hT hk hJ hb hu hp hd => ?_)
    have e1 : A.eval (.tmp 6) = .pointer (some ⟨w.heap.size, 0 + 1, none⟩) := (hT 6 3 (by simp) rfl).trans (hd ⟨3, .data⟩ (by simp) rfl rfl)
    exact wp_ld_slice (e := 37) rfl (e1) (by kernel_rfl) ((hRD _ _ hJ).cell1) ⟨_, rfl, rfl, Below.refl _ _⟩
  case o5 =>
    refine LnOp.line 1 rfl rfl (fun A va w' hF hT hJ hu hd => ?_)
    have e1 : A.eval (.tmp 7) = .slice a2 n.chains.length c2 := (hT 7 4 (by simp) rfl).trans (hd ⟨4, .data⟩ (by simp) rfl rfl)
    have hq : Below W.heap.size W w' := CpK.base hJ
    refine wp_callFn rfl ekc (by simp only [List.map_toArray, List.map_cons, List.map_nil, e1, BigFrame.eval_func]) ((each_c w' (r2'.below hq) (by omega) 22 ef2 (fun W3 r hr A C hb3 hrd => ?_)).mono ?_)
    · refine (versions_any W3 hrd (hbc _ (List.getElem_mem hr))).mono ?_
      rintro e W4 ⟨ad', c', rfl, h1, h2⟩
      exact ⟨_, _, rfl, h1, h2⟩
    · rintro e W4 ⟨v, rfl, hc⟩
      exact ⟨_, rfl, _, rfl, ⟨w', hJ, hc⟩, Trd.of hc.base⟩
  case o6 =>
    refine LnOp.side rfl (by kernel_rfl) (fun A va w' k hF hT hk hJ hb hu hp hd => ?_)
    have e1 : A.eval (.tmp 1) = .pointer (some ⟨w.heap.size, 0, none⟩) := hF 1 rfl
    exact wp_fieldN ndS rfl (e1) (by omega) ⟨_, rfl, rfl, Below.refl _ _⟩
  case o7 =>
    refine LnOp.side rfl (by kernel_rfl) (fun A va w' k hF hT hk hJ hb hu hp hd => ?_)
    have e1 : A.eval (.tmp 9) = .pointer (some ⟨w.heap.size, 0 + 2, none⟩) := (hT 9 6 (by simp) rfl).trans (hd ⟨6, .data⟩ (by simp) rfl rfl)
    exact wp_ld_slice (e := 28) rfl (e1) (by kernel_rfl) ((hRD _ _ hJ).cell2) ⟨_, rfl, rfl, Below.refl _ _⟩
  case o8 =>
    refine LnOp.line 2 rfl rfl (fun A va w' hF hT hJ hu hd => ?_)
    have e1 : A.eval (.tmp 10) = .slice a3 n.kids.length c3 := (hT 10 7 (by simp) rfl).trans (hd ⟨7, .data⟩ (by simp) rfl rfl)
    obtain ⟨Wa, hJ1, hJ2⟩ := hJ
    have hq : Below W.heap.size W w' := hJ1.base.trans (hJ2.base.mono hJ1.base.size)
    refine wp_callFn rfl ekn (by simp only [List.map_toArray, List.map_cons, List.map_nil, e1, BigFrame.eval_func]) ((each_n w' (r3'.below hq) (by omega) 15 ef3 (fun W3 r hr v hb3 hrd => ?_)).mono ?_)
    · have := wN_kid (List.getElem_mem hr)
      exact ih _ W3 (by omega) (by omega) (hbn _ (List.getElem_mem hr)) hrd
    · rintro e W4 ⟨v, rfl, hc⟩
      exact ⟨_, rfl, _, rfl, ⟨Wa, w', hJ1, hJ2, hc⟩, Trd.of hc.base⟩
  case o9 =>
    refine LnOp.side rfl (by kernel_rfl) (fun A va w' k hF hT hk hJ hb hu hp hd => ?_)
    have x1 : A.eval (.tmp 5) = va 2 := hT 5 2 (by simp) rfl
    have x2 : A.eval (.tmp 8) = va 5 := hT 8 5 (by simp) rfl
    have x3 : A.eval (.tmp 11) = va 8 := hT 11 8 (by simp) rfl
    obtain rfl : k = 3 := by
      have h1 := hp ⟨8, .data⟩ (by simp) rfl 2 rfl
      have h2 := hb 3 10 rfl (by kernel_rfl)
      omega
    obtain ⟨Wa, Wb, hJ1, hJ2, hJ3⟩ := hJ
    have hn := NewFrom.of hJ1 hJ2 hJ3
    obtain ⟨x, y, z, e, _, hx1, hy1, hz1⟩ := hn.tri
    injection e with e
    simp only [Array.mk.injEq, List.cons.injEq, and_true] at e
    obtain ⟨rfl, rfl, rfl⟩ := e
    exact wp_build3 ndS rfl x1 x2 x3 hx1 hy1 hz1 ⟨_, rfl, hn, Below.refl _ _⟩
  case o10 =>
    refine LnOp.line 3 rfl rfl (fun A va w' hF hT hJ hu hd => ?_)
    have e1 : A.eval (.tmp 2) = .pointer (some ⟨w.heap.size + 1, 0, none⟩) := hF 2 rfl
    have x2 : A.eval (.tmp 12) = va 9 := hT 12 9 (by simp) rfl
    have y2 := hd ⟨9, .data⟩ (by simp) rfl rfl
    have hn : NewFrom W.heap.size w' n (va 9) := y2
    obtain ⟨Wa, Wb, hJ1, hJ2, hJ3⟩ := hJ
    have hq : Below W.heap.size W w' := (hJ1.base.trans (hJ2.base.mono hJ1.base.size)).trans (hJ3.base.mono (hJ1.base.trans (hJ2.base.mono hJ1.base.size)).size)
    obtain ⟨x, y, z, e, ⟨hx1, hy1, hz1⟩, _⟩ := hn.tri
    refine wp_storeT rfl e1 (x2.trans e) hx1 hy1 hz1 (bz.below hq (by omega)) (fun w2 hg ht => ?_)
    have hk : Trd (· = w.heap.size + 1) w' w2 := Trd.ofGrown (F := (· = w.heap.size + 1)) hg fun k hk => by injection hk with hk; exact hk.symm
    exact ⟨_, rfl, ⟨x, y, z, ht, e ▸ hn.keep hk.size fun k hl hlt => hk.block k hlt (by omega), (Trd.of (F := (· = w.heap.size + 1)) hq).trans hk fun _ _ h => h⟩, hk⟩
  case fin =>
    intro vs1 W9 hJ hG
    obtain ⟨x, y, z, ht, hn, hk⟩ := hJ
    have q9 : Below w.heap.size w W9 := q.trans (hk.below (n := w.heap.size) q.size fun k hk => by omega)
    clear hG
    simp only [putAll]
    go_simp
    go_wp2_with fail
    obtain ⟨fs, hu, _⟩ := ndS.hu
    refine bodyPost_ret (v := .agg #[x, y, z]) (by simp [results, Try.results15, go_sem, loadVar, isAgg, run_underlying hu, run_sizeOf' ndS.hs, loadCellsFrom, Addr.add, ht.cell0, ht.cell1, ht.cell2]) rfl ⟨_, rfl, hn.nd q.size q9⟩
theorem copied_all (N : Nat) : CopiedAt N := by
  induction N with
  | zero =>
    intro n w S v h
    have := wN_pos n
    omega
  | succ N ih => exact copied_step N ih
end Go.Proofs.Yticngbgjfdcnhaa
namespace Go.Proofs.Yticngbgjfdcnhaa
open Go.RowKit
def J3 (A B C : World → Value → World → Prop) (w1 : World) (bx : Nat) : List Value → World → Prop
  | [], W => Below w1.heap.size w1 W
  | [a], W => A w1 a W
  | [a, b], W => ∃ Wa, A w1 a Wa ∧ B Wa b W
  | [a, b, c], W => ∃ Wa Wb, A w1 a Wa ∧ B Wa b Wb ∧ C Wb c W
  | _, W => ∃ x y z Wa Wb Wc, A w1 x Wa ∧ B Wa y Wb ∧ C Wb z Wc ∧ TriV W bx 28 x y z ∧ Trd (· = bx) Wc W
structure Mk (A : World → Value → World → Prop) : Prop where
  base : ∀ {w v W}, A w v W → Below w.heap.size w W
  more : ∀ {w v W W'}, A w v W → Below W.heap.size W W' → A w v W'
  one : ∀ {w v W}, A w v W → v.oneCell' = true ∧ v.cells = #[v]
section
variable {A B C : World → Value → World → Prop} (hA : Mk A) (hB : Mk B) (hC : Mk C) {w1 : World} {bx : Nat}
include hA hB hC
theorem J3.below3 {a b c : Value} {W : World} (h : J3 A B C w1 bx [a, b, c] W) : Below w1.heap.size w1 W := by
  obtain ⟨Wa, Wb, h1, h2, h3⟩ := h
  have q1 := hA.base h1
  have q2 := q1.trans ((hB.base h2).mono q1.size)
  exact q2.trans ((hC.base h3).mono q2.size)
omit hC in
theorem J3.below2 {a b : Value} {W : World} (h : J3 A B C w1 bx [a, b] W) : Below w1.heap.size w1 W := by
  obtain ⟨Wa, h1, h2⟩ := h
  have q1 := hA.base h1
  exact q1.trans ((hB.base h2).mono q1.size)
theorem J3.trd : ∀ {l : List Value} {W : World}, J3 A B C w1 bx l W → Trd (· = bx) w1 W
  | [], _, h => Trd.of h
  | [_], _, h => Trd.of (hA.base h)
  | [_, _], _, h => Trd.of (J3.below2 hA hB h)
  | [_, _, _], _, h => Trd.of (J3.below3 hA hB hC h)
  | _ :: _ :: _ :: _ :: _, _, ⟨x, y, z, Wa, Wb, _, h1, h2, h3, _, h⟩ => (Trd.of (J3.below3 hA hB hC (bx := bx) (a := x) (b := y) (c := z) ⟨Wa, Wb, h1, h2, h3⟩)).trans h fun _ _ h => h
theorem J3.more : ∀ (l : List Value) (W W' : World), J3 A B C w1 bx l W → Below W.heap.size W W' → J3 A B C w1 bx l W'
  | [], _, _, h, hb => Below.trans h (hb.mono (Below.size h))
  | [_], _, _, h, hb => hA.more h hb
  | [_, _], _, _, ⟨Wa, h1, h2⟩, hb => ⟨Wa, h1, hB.more h2 hb⟩
  | [_, _, _], _, _, ⟨Wa, Wb, h1, h2, h3⟩, hb => ⟨Wa, Wb, h1, h2, hC.more h3 hb⟩
  | _ :: _ :: _ :: _ :: _, _, _, ⟨x, y, z, Wa, Wb, Wc, h1, h2, h3, h4, h5⟩, hb => ⟨x, y, z, Wa, Wb, Wc, h1, h2, h3, h4.below hb h4.lt, h5.trans (Trd.of (F := (· = bx)) hb) fun _ _ h => h⟩
end
def g3 (A B C : World → Value → World → Prop) (w1 : World) (bx : Nat) : SGn (fun X Y => Trd (· = bx) X Y) :=
  ⟨fun W v => ∃ x y z Wa Wb Wc, v = .agg #[x, y, z] ∧ A w1 x Wa ∧ B Wa y Wb ∧ C Wb z Wc ∧ Trd (· = bx) Wc W,
   fun _ _ _ ⟨x, y, z, Wa, Wb, Wc, e, h1, h2, h3, h4⟩ hb => ⟨x, y, z, Wa, Wb, Wc, e, h1, h2, h3, h4.trans (Trd.of (F := (· = bx)) hb) fun _ _ h => h⟩,
   fun _ _ _ ⟨x, y, z, Wa, Wb, Wc, e, h1, h2, h3, h4⟩ hk => ⟨x, y, z, Wa, Wb, Wc, e, h1, h2, h3, h4.trans hk fun _ _ h => h⟩⟩
theorem mk_row (Te : TypeId) (sz n : Nat) (cs : List Value) : Mk fun w v W => RowNew Te sz w v n cs W := ⟨fun h => h.2.2, fun h hb => h.below hb, fun h => by
  obtain ⟨_, _, rfl, _⟩ := h.1.shape
  exact ⟨rfl, rfl⟩⟩
structure New3 (w : World) (x y z : Value) (n1 : Nat) (cs1 : List Value) (n2 : Nat) (cs2 : List Value) (n3 : Nat) (cs3 : List Value) (W : World) : Prop where
  ky : RowNew 32 1 w x n1 cs1 W
  ch : RowNew 37 1 w y n2 cs2 W
  kd : RowNew 28 3 w z n3 cs3 W
  nd : (blkOf x ++ blkOf y ++ blkOf z).Nodup
theorem New3.of {w w1 Wa Wb Wc W : World} {bx : Nat} {x y z : Value} {n1 n2 n3 : Nat} {cs1 cs2 cs3 : List Value} (hw : Below w.heap.size w w1) (hbx : w.heap.size ≤ bx) (hbx1 : bx < w1.heap.size) (h1 : RowNew 32 1 w1 x n1 cs1 Wa) (h2 : RowNew 37 1 Wa y n2 cs2 Wb) (h3 : RowNew 28 3 Wb z n3 cs3 Wc) (hk : Trd (· = bx) Wc W) : New3 w x y z n1 cs1 n2 cs2 n3 cs3 W := by
  have s0 := hw.size
  have s1 := h1.2.2.size
  have s2 := h2.2.2.size
  have s3 := h3.2.2.size
  have lx : ∀ k, x.ownBlock = some k → w1.heap.size ≤ k ∧ k < Wa.heap.size := fun k hk => ⟨h1.2.1 k hk, h1.1.lt hk⟩
  have ly : ∀ k, y.ownBlock = some k → Wa.heap.size ≤ k ∧ k < Wb.heap.size := fun k hk => ⟨h2.2.1 k hk, h2.1.lt hk⟩
  have lz : ∀ k, z.ownBlock = some k → Wb.heap.size ≤ k ∧ k < Wc.heap.size := fun k hk => ⟨h3.2.1 k hk, h3.1.lt hk⟩
  have q : Below w.heap.size w W := by
    have qc : Below w.heap.size w Wc := hw.trans ((h1.2.2.trans ((h2.2.2.trans (h3.2.2.mono h2.2.2.size)).mono h1.2.2.size)).mono hw.size)
    exact qc.trans (hk.below qc.size fun k hk => by omega)
  refine ⟨⟨?_, fun k hk => by have := lx k hk; omega, q⟩, ⟨?_, fun k hk => by have := ly k hk; omega, q⟩, ⟨?_, fun k hk => by have := lz k hk; omega, q⟩, ?_⟩
  · exact ((h1.1.below (h2.2.2)).below h3.2.2).trd hk fun k hk => by have := lx k hk; omega
  · exact (h2.1.below h3.2.2).trd hk fun k hk => by have := ly k hk; omega
  · exact h3.1.trd hk fun k hk => by have := lz k hk; omega
  · simp only [List.nodup_append, blkOf_nodup, List.mem_append, blkOf_mem, true_and]
    refine ⟨fun a ha b hb e => by have := lx a ha; have := ly b hb; omega, fun a ha b hb e => ?_⟩
    have := lz b hb
    rcases ha with ha | ha
    · have := lx a ha; omega
    · have := ly a ha; omega
set_option maxRecDepth 100000 in
set_option maxHeartbeats 4000000 in
theorem part_any (w : World) {v1 v2 v3 : Value} {n1 n2 n3 i j : Nat} {iz : Int} {us1 us2 us3 : List Value} (h1 : RowQ 32 1 w v1 n1 us1) (h2 : RowQ 37 1 w v2 n2 us2) (h3 : RowQ 28 3 w v3 n3 us3) (hiz : iz = (i : Int)) (hij : i ≤ j) (hn1 : n1 ≤ 1000000) (hn2 : n2 ≤ 1000000) (hn3 : n3 ≤ 1000000) (hj : j ≤ 1000000) :
    Calls Try.prog 51 #[.agg #[v1, v2, v3], .int .i64 iz, .int .i64 j] w fun e W => ∃ x y z, e = .returned (.agg #[x, y, z]) ∧
      New3 w x y z (min j n1 - min i n1) ((us1.take (min j n1 * 1)).drop (min i n1 * 1)) (min j n2 - min i n2) ((us2.take (min j n2 * 1)).drop (min i n2 * 1)) (min (j + 1) n3 - min i n3) ((us3.take (min (j + 1) n3 * 3)).drop (min i n3 * 3)) W := by
  subst hiz
  obtain ⟨a1, c1, rfl, _, _⟩ := h1.shape
  obtain ⟨a2, c2, rfl, _, _⟩ := h2.shape
  obtain ⟨a3, c3, rfl, _, _⟩ := h3.shape
  obtain ⟨W, hW, q, bn, bz, hsz⟩ := triBoxes2 w 28 (.slice a1 n1 c1) (.slice a2 n2 c2) (.slice a3 n3 c3) (.slice none 0 0) (.slice none 0 0) (.slice none 0 0)
  have ek : ∀ args w, (callFunc 67 args).run Try.prog w = .ok (.enter 67 args) w := enters_of Try.func67 (by kernel_rfl) rfl
  have ec : ∀ args w, (callFunc 68 args).run Try.prog w = .ok (.enter 68 args) w := enters_of Try.func68 (by kernel_rfl) rfl
  have en : ∀ args w, (callFunc 69 args).run Try.prog w = .ok (.enter 69 args) w := enters_of Try.func69 (by kernel_rfl) rfl
  obtain ⟨m1, hm1⟩ : ∃ m, m = min j n1 - min i n1 := ⟨_, rfl⟩
  obtain ⟨m2, hm2⟩ : ∃ m, m = min j n2 - min i n2 := ⟨_, rfl⟩
  obtain ⟨m3, hm3⟩ : ∃ m, m = min (j + 1) n3 - min i n3 := ⟨_, rfl⟩
  obtain ⟨cs1, hcs1⟩ : ∃ cs, cs = (us1.take (min j n1 * 1)).drop (min i n1 * 1) := ⟨_, rfl⟩
  obtain ⟨cs2, hcs2⟩ : ∃ cs, cs = (us2.take (min j n2 * 1)).drop (min i n2 * 1) := ⟨_, rfl⟩
  obtain ⟨cs3, hcs3⟩ : ∃ cs, cs = (us3.take (min (j + 1) n3 * 3)).drop (min i n3 * 3) := ⟨_, rfl⟩
  rw [← hm1, ← hm2, ← hm3, ← hcs1, ← hcs2, ← hcs3]
  have H1 : ∀ W', Below w.heap.size w W' → Calls Try.prog 67 #[.slice a1 n1 c1, .int .i64 i, .int .i64 j] W' (RetNew 32 1 W' m1 cs1) := fun W' hb => by rw [hm1, hcs1]; exact cut_k W' (h1.below hb) rfl hij hn1
  have H2 : ∀ W', Below w.heap.size w W' → Calls Try.prog 68 #[.slice a2 n2 c2, .int .i64 i, .int .i64 j] W' (RetNew 37 1 W' m2 cs2) := fun W' hb => by rw [hm2, hcs2]; exact cut_c W' (h2.below hb) rfl hij hn2
  have H3 : ∀ W', Below w.heap.size w W' → Calls Try.prog 69 #[.slice a3 n3 c3, .int .i64 i, .int .i64 ((j : Int) + 1)] W' (RetNew 28 3 W' m3 cs3) := fun W' hb => by rw [hm3, hcs3]; exact cut_n W' (h3.below hb) (j := j + 1) rfl (by omega) hn3
  clear hm1 hm2 hm3 hcs1 hcs2 hcs3
  have A1 := mk_row 32 1 m1 cs1
  have A2 := mk_row 37 1 m2 cs2
  have A3 := mk_row 28 3 m3 cs3
  go_enter Try.func51, Try.ntmps51
  go_upto_region 1 with (fail)
  rw [← hW]
  clear hW
  have hRD : ∀ l W', J3 (fun w v W => RowNew 32 1 w v m1 cs1 W) (fun w v W => RowNew 37 1 w v m2 cs2 W) (fun w v W => RowNew 28 3 w v m3 cs3 W) W (w.heap.size + 1) l W' → TriV W' w.heap.size 28 (.slice a1 n1 c1) (.slice a2 n2 c2) (.slice a3 n3 c3) := fun l W' h => ((J3.trd A1 A2 A3 h).block _ (by omega) (by omega)).trans bn
  refine wp_region_lnl (K := fun A B => Trd (· = w.heap.size + 1) A B) (by kernel_rfl) (by kernel_rfl) [4, 9, 15, 17] (by kernel_rfl) [lEq (.pointer (some ⟨w.heap.size, 0 + 0, none⟩)), lEq (.slice a1 n1 c1), lEq (.int .i64 (i : Int)), lEq (.int .i64 (j : Int)), lAny, lEq (.pointer (some ⟨w.heap.size, 0 + 1, none⟩)), lEq (.slice a2 n2 c2), lEq (.int .i64 (i : Int)), lEq (.int .i64 (j : Int)), lAny, lEq (.pointer (some ⟨w.heap.size, 0 + 2, none⟩)), lEq (.slice a3 n3 c3), lEq (.int .i64 (i : Int)), lEq (.int .i64 (j : Int)), lEq (.int .i64 ((j : Int) + 1)), lAny, g3 (fun w v W => RowNew 32 1 w v m1 cs1 W) (fun w v W => RowNew 37 1 w v m2 cs2 W) (fun w v W => RowNew 28 3 w v m3 cs3 W) W (w.heap.size + 1), lAny] (J3 (fun w v W => RowNew 32 1 w v m1 cs1 W) (fun w v W => RowNew 37 1 w v m2 cs2 W) (fun w v W => RowNew 28 3 w v m3 cs3 W) W (w.heap.size + 1)) (J3.more A1 A2 A3) (show Below W.heap.size W W from Below.refl _ _)
    ⟨?o0, ?o1, ?o2, ?o3, ?o4, ?o5, ?o6, ?o7, ?o8, ?o9, ?o10, ?o11, ?o12, ?o13, ?o14, ?o15, ?o16, ?o17, trivial⟩ ?fin
  case o0 =>
    refine LnOp.side rfl (by kernel_rfl) (fun A va w' k hF hT hk hJ hb hu hp hd => ?_)
    have e1 : A.eval (.tmp 3) = .pointer (some ⟨w.heap.size, 0, none⟩) := hF 3 rfl
    exact wp_fieldN ndS rfl (e1) (by omega) ⟨_, rfl, rfl, Below.refl _ _⟩
  case o1 =>
    refine LnOp.side rfl (by kernel_rfl) (fun A va w' k hF hT hk hJ hb hu hp hd => ?_)
    have e1 : A.eval (.tmp 7) = .pointer (some ⟨w.heap.size, 0 + 0, none⟩) := (hT 7 0 (by simp) rfl).trans (hd ⟨0, .data⟩ (by simp) rfl rfl)
    exact wp_ld_slice (e := 32) rfl (e1) (by kernel_rfl) ((hRD _ _ hJ).cell0) ⟨_, rfl, rfl, Below.refl _ _⟩
  case o2 =>
    refine LnOp.side rfl (by kernel_rfl) (fun A va w' k hF hT hk hJ hb hu hp hd => ?_)
    have e1 : A.eval (.tmp 1) = .int .i64 (i : Int) := hF 1 rfl
    exact BigFrame.wp_move _ rfl ⟨_, rfl, e1, Below.refl _ _⟩
  case o3 =>
    refine LnOp.side rfl (by kernel_rfl) (fun A va w' k hF hT hk hJ hb hu hp hd => ?_)
    have e1 : A.eval (.tmp 2) = .int .i64 (j : Int) := hF 2 rfl
    exact BigFrame.wp_move _ rfl ⟨_, rfl, e1, Below.refl _ _⟩
  case o4 =>
    refine LnOp.line 0 rfl rfl (fun A va w' hF hT hJ hu hd => ?_)
    have e1 : A.eval (.tmp 8) = .slice a1 n1 c1 := (hT 8 1 (by simp) rfl).trans (hd ⟨1, .data⟩ (by simp) rfl rfl)
    have e2 : A.eval (.tmp 9) = .int .i64 (i : Int) := (hT 9 2 (by simp) rfl).trans (hd ⟨2, .data⟩ (by simp) rfl rfl)
    have e3 : A.eval (.tmp 10) = .int .i64 (j : Int) := (hT 10 3 (by simp) rfl).trans (hd ⟨3, .data⟩ (by simp) rfl rfl)
    have hJ' : Below W.heap.size W w' := hJ
    refine wp_callFn rfl ek (by simp only [List.map_toArray, List.map_cons, List.map_nil, e1, e2, e3]) ((H1 w' (q.trans (hJ'.mono q.size))).mono ?_)
    rintro e W4 ⟨v, rfl, hc⟩
    exact ⟨_, rfl, _, rfl, ⟨hc.1, fun k hk => Nat.le_trans hJ'.size (hc.2.1 k hk), hJ'.trans (hc.2.2.mono hJ'.size)⟩, Trd.of hc.2.2⟩
  case o5 =>
    refine LnOp.side rfl (by kernel_rfl) (fun A va w' k hF hT hk hJ hb hu hp hd => ?_)
    have e1 : A.eval (.tmp 3) = .pointer (some ⟨w.heap.size, 0, none⟩) := hF 3 rfl
    exact wp_fieldN ndS rfl (e1) (by omega) ⟨_, rfl, rfl, Below.refl _ _⟩
  case o6 =>
    refine LnOp.side rfl (by kernel_rfl) (fun A va w' k hF hT hk hJ hb hu hp hd => ?_)
    have e1 : A.eval (.tmp 12) = .pointer (some ⟨w.heap.size, 0 + 1, none⟩) := (hT 12 5 (by simp) rfl).trans (hd ⟨5, .data⟩ (by simp) rfl rfl)
    exact wp_ld_slice (e := 37) rfl (e1) (by kernel_rfl) ((hRD _ _ hJ).cell1) ⟨_, rfl, rfl, Below.refl _ _⟩
  case o7 =>
    refine LnOp.side rfl (by kernel_rfl) (fun A va w' k hF hT hk hJ hb hu hp hd => ?_)
    have e1 : A.eval (.tmp 1) = .int .i64 (i : Int) := hF 1 rfl
    exact BigFrame.wp_move _ rfl ⟨_, rfl, e1, Below.refl _ _⟩
  case o8 =>
    refine LnOp.side rfl (by kernel_rfl) (fun A va w' k hF hT hk hJ hb hu hp hd => ?_)
    have e1 : A.eval (.tmp 2) = .int .i64 (j : Int) := hF 2 rfl
    exact BigFrame.wp_move _ rfl ⟨_, rfl, e1, Below.refl _ _⟩
  case o9 =>
    refine LnOp.line 1 rfl rfl (fun A va w' hF hT hJ hu hd => ?_)
    have e1 : A.eval (.tmp 13) = .slice a2 n2 c2 := (hT 13 6 (by simp) rfl).trans (hd ⟨6, .data⟩ (by simp) rfl rfl)
    have e2 : A.eval (.tmp 14) = .int .i64 (i : Int) := (hT 14 7 (by simp) rfl).trans (hd ⟨7, .data⟩ (by simp) rfl rfl)
    have e3 : A.eval (.tmp 15) = .int .i64 (j : Int) := (hT 15 8 (by simp) rfl).trans (hd ⟨8, .data⟩ (by simp) rfl rfl)
    have hJ' : Below W.heap.size W w' := A1.base hJ
    refine wp_callFn rfl ec (by simp only [List.map_toArray, List.map_cons, List.map_nil, e1, e2, e3]) ((H2 w' (q.trans (hJ'.mono q.size))).mono ?_)
    rintro e W4 ⟨v, rfl, hc⟩
    exact ⟨_, rfl, _, rfl, ⟨w', hJ, hc⟩, Trd.of hc.2.2⟩
  case o10 =>
    refine LnOp.side rfl (by kernel_rfl) (fun A va w' k hF hT hk hJ hb hu hp hd => ?_)
    have e1 : A.eval (.tmp 3) = .pointer (some ⟨w.heap.size, 0, none⟩) := hF 3 rfl
    exact wp_fieldN ndS rfl (e1) (by omega) ⟨_, rfl, rfl, Below.refl _ _⟩
  case o11 =>
    refine LnOp.side rfl (by kernel_rfl) (fun A va w' k hF hT hk hJ hb hu hp hd => ?_)
    have e1 : A.eval (.tmp 17) = .pointer (some ⟨w.heap.size, 0 + 2, none⟩) := (hT 17 10 (by simp) rfl).trans (hd ⟨10, .data⟩ (by simp) rfl rfl)
    exact wp_ld_slice (e := 28) rfl (e1) (by kernel_rfl) ((hRD _ _ hJ).cell2) ⟨_, rfl, rfl, Below.refl _ _⟩
  case o12 =>
    refine LnOp.side rfl (by kernel_rfl) (fun A va w' k hF hT hk hJ hb hu hp hd => ?_)
    have e1 : A.eval (.tmp 1) = .int .i64 (i : Int) := hF 1 rfl
    exact BigFrame.wp_move _ rfl ⟨_, rfl, e1, Below.refl _ _⟩
  case o13 =>
    refine LnOp.side rfl (by kernel_rfl) (fun A va w' k hF hT hk hJ hb hu hp hd => ?_)
    have e1 : A.eval (.tmp 2) = .int .i64 (j : Int) := hF 2 rfl
    exact BigFrame.wp_move _ rfl ⟨_, rfl, e1, Below.refl _ _⟩
  case o14 =>
    refine LnOp.side rfl (by kernel_rfl) (fun A va w' k hF hT hk hJ hb hu hp hd => ?_)
    have e1 : A.eval (.tmp 20) = .int .i64 (j : Int) := (hT 20 13 (by simp) rfl).trans (hd ⟨13, .data⟩ (by simp) rfl rfl)
    exact wp_addI rfl (e1) (rfl) (by omega) (by omega) ⟨_, rfl, rfl, Below.refl _ _⟩
  case o15 =>
    refine LnOp.line 2 rfl rfl (fun A va w' hF hT hJ hu hd => ?_)
    have e1 : A.eval (.tmp 18) = .slice a3 n3 c3 := (hT 18 11 (by simp) rfl).trans (hd ⟨11, .data⟩ (by simp) rfl rfl)
    have e2 : A.eval (.tmp 19) = .int .i64 (i : Int) := (hT 19 12 (by simp) rfl).trans (hd ⟨12, .data⟩ (by simp) rfl rfl)
    have e3 : A.eval (.tmp 21) = .int .i64 ((j : Int) + 1) := (hT 21 14 (by simp) rfl).trans (hd ⟨14, .data⟩ (by simp) rfl rfl)
    have hJ' : Below W.heap.size W w' := J3.below2 A1 A2 hJ
    refine wp_callFn rfl en (by simp only [List.map_toArray, List.map_cons, List.map_nil, e1, e2, e3]) ((H3 w' (q.trans (hJ'.mono q.size))).mono ?_)
    rintro e W4 ⟨v, rfl, hc⟩
    obtain ⟨Wa, hJ1, hJ2⟩ := hJ
    exact ⟨_, rfl, _, rfl, ⟨Wa, w', hJ1, hJ2, hc⟩, Trd.of hc.2.2⟩
  case o16 =>
    refine LnOp.side rfl (by kernel_rfl) (fun A va w' k hF hT hk hJ hb hu hp hd => ?_)
    have x1 : A.eval (.tmp 11) = va 4 := hT 11 4 (by simp) rfl
    have x2 : A.eval (.tmp 16) = va 9 := hT 16 9 (by simp) rfl
    have x3 : A.eval (.tmp 22) = va 15 := hT 22 15 (by simp) rfl
    obtain rfl : k = 3 := by
      have h1 := hp ⟨15, .data⟩ (by simp) rfl 2 rfl
      have h2 := hb 3 17 rfl (by kernel_rfl)
      omega
    obtain ⟨Wa, Wb, hJ1, hJ2, hJ3⟩ := hJ
    exact wp_build3 ndS rfl x1 x2 x3 (A1.one hJ1).2 (A2.one hJ2).2 (A3.one hJ3).2 ⟨_, rfl, ⟨_, _, _, Wa, Wb, w', rfl, hJ1, hJ2, hJ3, Trd.refl _ _⟩, Below.refl _ _⟩
  case o17 =>
    refine LnOp.line 3 rfl rfl (fun A va w' hF hT hJ hu hd => ?_)
    have e1 : A.eval (.tmp 6) = .pointer (some ⟨w.heap.size + 1, 0, none⟩) := hF 6 rfl
    have x2 : A.eval (.tmp 23) = va 16 := hT 23 16 (by simp) rfl
    have y2 := hd ⟨16, .data⟩ (by simp) rfl rfl
    obtain ⟨x, y, z, Wa, Wb, Wc, e, hJ1, hJ2, hJ3, hk⟩ := y2
    have hq := J3.below3 A1 A2 A3 hJ
    refine wp_storeT rfl e1 (x2.trans e) (A1.one hJ1).1 (A2.one hJ2).1 (A3.one hJ3).1 (bz.below hq (by omega)) (fun w2 hg ht => ?_)
    have hk2 : Trd (· = w.heap.size + 1) w' w2 := Trd.ofGrown (F := (· = w.heap.size + 1)) hg fun k hk => by injection hk with hk; exact hk.symm
    exact ⟨_, rfl, ⟨x, y, z, Wa, Wb, Wc, hJ1, hJ2, hJ3, ht, hk.trans hk2 fun _ _ h => h⟩, hk2⟩
  case fin =>
    intro vs1 W9 hJ hG
    obtain ⟨x, y, z, Wa, Wb, Wc, r1, r2, r3, ht, hk⟩ := hJ
    have hN := New3.of q (Nat.le_succ _) (by omega) r1 r2 r3 hk
    clear hG
    simp only [putAll]
    go_simp
    go_wp2_with fail
    obtain ⟨fs, hu, _⟩ := ndS.hu
    exact bodyPost_ret (v := .agg #[x, y, z]) (by simp [results, Try.results51, go_sem, loadVar, isAgg, run_underlying hu, run_sizeOf' ndS.hs, loadCellsFrom, Addr.add, ht.cell0, ht.cell1, ht.cell2]) rfl ⟨x, y, z, rfl, hN⟩
end Go.Proofs.Yticngbgjfdcnhaa
namespace Go.Proofs.Yticngbgjfdcnhaa
open Go.RowKit
def Chn (W0 : World) (R : List Value → World → Value → World → Prop) : List Value → World → Prop
  | [], W => Below W0.heap.size W0 W
  | v :: l, W => ∃ W1 W2, Chn W0 R l W1 ∧ R l W1 v W2 ∧ Below W2.heap.size W2 W
theorem Chn.more {W0 : World} {R : List Value → World → Value → World → Prop} : ∀ (l : List Value) (W W' : World), Chn W0 R l W → Below W.heap.size W W' → Chn W0 R l W'
  | [], _, _, h, hb => Below.trans h (hb.mono (Below.size h))
  | _ :: _, _, _, ⟨W1, W2, h1, h2, h3⟩, hb => ⟨W1, W2, h1, h2, h3.trans (hb.mono h3.size)⟩
theorem Chn.trd {W0 : World} {R : List Value → World → Value → World → Prop} {Fp : Nat → Nat → Prop} (hR : ∀ l W v W', R l W v W' → Trd (fun k => Fp l.length k) W W') : ∀ {l : List Value} {W : World}, Chn W0 R l W → Trd (fun k => ∃ p, p < l.length ∧ Fp p k) W0 W
  | [], _, h => Trd.of h
  | v :: l, _, ⟨W1, W2, h1, h2, h3⟩ => by
    have t1 := (Chn.trd hR h1).mono (F' := fun k => ∃ p, p < (v :: l).length ∧ Fp p k) fun k _ ⟨p, hp, hk⟩ => ⟨p, by simp only [List.length_cons]; omega, hk⟩
    have t2 := (hR _ _ _ _ h2).mono (F' := fun k => ∃ p, p < (v :: l).length ∧ Fp p k) fun k _ hk => ⟨l.length, by simp, hk⟩
    exact (t1.trans t2 fun _ _ h => h).trans (Trd.of (F := fun k => ∃ p, p < (v :: l).length ∧ Fp p k) h3) fun _ _ h => h
abbrev K0 (W0 : World) : World → World → Prop := fun A B => Trd (· < W0.heap.size) A B
def lRow (W0 : World) (Te : TypeId) (m : Nat) (us : List Value) : SGn (K0 W0) :=
  ⟨fun W v => ∃ b, v = .slice (some ⟨b, 0, none⟩) m m ∧ W0.heap.size ≤ b ∧ W.heap[b]? = some (.cells us.toArray Te (0, 0)),
   fun _ _ _ ⟨b, e, h1, h2⟩ hb => ⟨b, e, h1, (hb.block b (Array.getElem?_eq_some_iff.1 h2).1).trans h2⟩,
   fun _ _ _ ⟨b, e, h1, h2⟩ hk => ⟨b, e, h1, (hk.block b (Array.getElem?_eq_some_iff.1 h2).1 (by omega)).trans h2⟩⟩
theorem blk_cnt (v : Value) (k : Nat) : (blkOf v).count k ≤ 1 ∧ (0 < (blkOf v).count k ↔ v.ownBlock = some k) := by
  refine ⟨?_, ?_⟩
  · unfold blkOf
    cases v.ownBlock with
    | none => simp
    | some j => rw [Option.toList_some, List.count_singleton]; split <;> omega
  · rw [List.count_pos_iff, blkOf_mem]
theorem RowTo.cnt {Te : TypeId} {sz n : Nat} {w w' : World} {v v' : Value} {vs : List Value} (h : RowTo Te sz w v n vs v' w') (k : Nat) : ((blkOf v').count k = (blkOf v).count k) ∨ ((blkOf v').count k ≤ 1 ∧ (0 < (blkOf v').count k → w.heap.size ≤ k ∧ k < w'.heap.size)) := by
  rcases h.2.2 with e | ⟨q, e, hq⟩
  · left
    unfold blkOf
    rw [e]
  · right
    refine ⟨(blk_cnt v' k).1, fun hp => ?_⟩
    have hk := (blk_cnt v' k).2.1 hp
    have hl := h.1.lt hk
    rw [e] at hk
    injection hk with hk
    omega
theorem RowTo.trd {Te : TypeId} {sz n : Nat} {w w' : World} {v v' : Value} {vs : List Value} (h : RowTo Te sz w v n vs v' w') : Trd (fun k => v.ownBlock = some k) w w' := Trd.ofGrown h.2.1 fun _ hk => hk
theorem nodup_cnt {l : List Nat} : l.Nodup ↔ ∀ k, l.count k ≤ 1 := List.nodup_iff_count
theorem NdAt.to {D : Nat → Prop} {w w' : World} {v : Value} {n n' : Nd} {F F' : List Nat} {vs' : List Value} {Q : Nd → Prop} (h : NdAt D w v n F) (ht : Trd (· ∈ F) w w') (ho : OwnN D w' n' vs' F') (hq : Q n') (hc : ∀ k, F'.count k ≤ 1 ∧ (0 < F'.count k → 0 < F.count k ∨ w.heap.size ≤ k)) : NdTo D w F Q (.returned (.agg vs'.toArray)) w' := by
  have hm : ∀ k ∈ F', k ∈ F ∨ w.heap.size ≤ k := fun k hk => by
    rcases (hc k).2 (List.count_pos_iff.2 hk) with h1 | h1
    · exact .inl (List.count_pos_iff.1 h1)
    · exact .inr h1
  refine ⟨_, n', F', rfl, hq, ⟨⟨vs', rfl, ho⟩, nodup_cnt.2 fun k => (hc k).1, fun k hk hd => ?_, fun k hd => Nat.lt_of_lt_of_le (h.data k hd) ht.size⟩, hm, ht⟩
  rcases hm k hk with h1 | h1
  · exact h.free k h1 hd
  · have := h.data k hd; omega
section
variable {P : Program} {T Te : TypeId} {n : Nat} {ops : Array Oper} {rest : List Oper} {o : Oper} {a : Act} {Q : Exit → Act → World → Prop} {w : World} {K : Act → World → Prop}
theorem run_buildTwo (hP : LoP P T Te 3) (w : World) {u1 u2 u3 v1 v2 v3 : Value} :
    (Instr.buildSlice T 2 #[(0, .agg #[u1, u2, u3]), (1, .agg #[v1, v2, v3])]).run P w = .ok (.slice (some ⟨w.heap.size, 0, none⟩) 2 2) (w.alloc (.cells [u1, u2, u3, v1, v2, v3].toArray Te)) := by
  obtain ⟨i, z, hi, hz, hsz, hby, hzs⟩ := hP.all
  have hr : Array.range (2 * 3) = #[0, 1, 2, 3, 4, 5] := rfl
  simp [Instr.buildSlice, run_underlying hP.hT, sizeOf, typeInfo, zeroValue, hi, hz, hsz, newRow, Value.cells, Instr.fill, hr]
theorem wp_buildTwo (hP : LoP P T Te 3) {x y : Operand} {u1 u2 u3 v1 v2 v3 : Value} (ho : o.op = .buildSlice T 2 #[(0, x), (1, y)]) (hx : a.eval x = .agg #[u1, u2, u3]) (hy : a.eval y = .agg #[v1, v2, v3])
    (h : K (a.put o.dst (.slice (some ⟨w.heap.size, 0, none⟩) 2 2)) (w.alloc (.cells [u1, u2, u3, v1, v2, v3].toArray Te))) : o.wp P a w K Q := by
  have hrun := run_buildTwo hP w (u1 := u1) (u2 := u2) (u3 := u3) (v1 := v1) (v2 := v2) (v3 := v3)
  unfold Oper.wp execOp
  simp only [ho, hx, hy, Sem.run_bind, Sem.run_pure, Result.andThen_ok, List.map_toArray, List.map_cons, List.map_nil, hrun]
  exact h
end
end Go.Proofs.Yticngbgjfdcnhaa
