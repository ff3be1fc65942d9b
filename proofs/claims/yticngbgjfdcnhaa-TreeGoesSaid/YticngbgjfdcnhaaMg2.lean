/-
  TEXTS OF ONE PROOF, merged: Aux, VerR, Guard, Row, Kept, Sink, VerC, VerE, VerN.
-/
import Derived.BigQuiet
import Derived.ChangeAlike
import Derived.Deep.Cut
import Derived.Deep.Matrix
import Derived.Deep.QuietTactic
import Derived.Lib.Hide
import Derived.OpenShut
import Derived.RegionTactic
import Derived.Shelf.Abstract
import Derived.Test.YticngbgjfdcnhaaMg1
namespace Go.Proofs.Yticngbgjfdcnhaa
open Go.RowKit
theorem byP : ByP Try.prog 32 5 9 := ⟨by kernel_rfl, by kernel_rfl, by kernel_rfl, by kernel_rfl⟩
end Go.Proofs.Yticngbgjfdcnhaa
namespace Go.Proofs.Yticngbgjfdcnhaa
open Go.RowKit
set_option maxHeartbeats 1000000 in
theorem refMay_any (w : World) {S : Nat → Prop} {A : Option Addr} {n c : Nat} {s : Int} {g : Bool} {vs : List UInt8} (hv : RdS S w (.slice A n c) vs) :
    Calls Try.prog 45 #[.agg #[.int .i64 s, .bool g, .slice A n c]] w fun e w' => e = .returned (.bool (decide (mayV ⟨s, g, vs⟩))) ∧ Below w.heap.size w w' := by
  obtain ⟨rfl, hnc, hcm⟩ := hv.len
  have hlm : vs.length ≤ 9223372036854775807 := by unfold maxLen at hcm; omega
  by_cases h1 : 1 ≤ s
  · by_cases h2 : s < 2147483648
    · by_cases h3 : vs.length ≤ 32
      · cases g
        · have hk := Lib.hid (show decide (mayV ⟨s, false, vs⟩) = true from decide_eq_true ⟨h1, h2, h3, by simp⟩)
          go_enter Try.func45, Try.ntmps45
          go_wp2
          go_ret
          exact ⟨by rw [hk.out]; rfl, (Below.refl _ _).alloc (Nat.le_refl _) _⟩
        · by_cases h4 : vs.length = 0
          · have hk := Lib.hid (show decide (mayV ⟨s, true, vs⟩) = true from decide_eq_true ⟨h1, h2, h3, fun _ => h4⟩)
            have d4 : ((vs.length : Int) == 0) = true := by rw [beq_iff_eq]; omega
            go_enter Try.func45, Try.ntmps45
            go_wp2
            go_ret
            exact ⟨by rw [hk.out]; rfl, (Below.refl _ _).alloc (Nat.le_refl _) _⟩
          · have hk := Lib.hid (show decide (mayV ⟨s, true, vs⟩) = false from decide_eq_false (fun h => h4 (h.2.2.2 rfl)))
            have d4 : ((vs.length : Int) == 0) = false := by rw [beq_eq_false_iff_ne]; omega
            go_enter Try.func45, Try.ntmps45
            go_wp2
            go_ret
            exact ⟨by rw [hk.out]; rfl, (Below.refl _ _).alloc (Nat.le_refl _) _⟩
      · have hk := Lib.hid (show decide (mayV ⟨s, g, vs⟩) = false from decide_eq_false (fun h => h3 h.2.2.1))
        go_enter Try.func45, Try.ntmps45
        go_wp2
        go_ret
        exact ⟨by rw [hk.out]; rfl, (Below.refl _ _).alloc (Nat.le_refl _) _⟩
    · have hk := Lib.hid (show decide (mayV ⟨s, g, vs⟩) = false from decide_eq_false (fun h => h2 h.2.1))
      go_enter Try.func45, Try.ntmps45
      go_wp2
      go_ret
      exact ⟨by rw [hk.out]; rfl, (Below.refl _ _).alloc (Nat.le_refl _) _⟩
  · have hk := Lib.hid (show decide (mayV ⟨s, g, vs⟩) = false from decide_eq_false (fun h => h1 h.1))
    go_enter Try.func45, Try.ntmps45
    go_wp2
    go_ret
    exact ⟨by rw [hk.out]; rfl, (Below.refl _ _).alloc (Nat.le_refl _) _⟩
set_option maxRecDepth 100000 in
set_option maxHeartbeats 2000000 in
theorem refCheckV_any (w : World) {S : Nat → Prop} {a : Option Addr} {n c : Nat} {l : List Ver} (hl : RdL Elt.ver S w (.slice a n c) l) :
    Calls Try.prog 26 #[.slice a n c] w fun e w' => e = .returned (.bool (decide (okV l))) ∧ Below w.heap.size w w' := by
  obtain ⟨rfl, hnc, hcm⟩ := hl.len
  have hlm : l.length ≤ 9223372036854775807 := by unfold maxLen at hcm; omega
  have q := Below.refl w.heap.size w
  go_enter Try.func26, Try.ntmps26
  go_upto_region 2 with (fail)
  go_loopw [3] (fun iv wr => ∃ k : Nat, iv = .int .i64 k ∧ k ≤ l.length ∧ (∀ i (h : i < l.length), i < k → mayV l[i] ∧ (0 < i → l[i - 1].stamp < l[i].stamp)) ∧ Below w.heap.size w wr)
    (fun i _ => l.length - (intOf i).toNat)
  case atStart => exact ⟨0, rfl, Nat.zero_le _, fun i _ h => by omega, q⟩
  case round =>
    clear q
    obtain ⟨k, rfl, hkl, hok, q⟩ := hrel
    rcases Nat.lt_or_ge k l.length with hlt | hge
    · have hl2 := hl.below q
      obtain ⟨b, off, A, C, rfl, hb, c0, c1, c2, hv, hi, hn1, hn2⟩ := hl2.ver k hlt
      go_wp2_with fail
      refine (refMay_any _ hv).mono ?_
      rintro e w1 ⟨rfl, hb1⟩
      have q1 := q.trans (hb1.mono q.size)
      replace hl2 := hl2.below hb1
      obtain ⟨b', off', A', C', e', hb', c0', c1', c2', hv', hi', hn1', hn2'⟩ := hl2.ver k hlt
      injection e' with e'; injection e' with e1 e2; subst e1; subst e2
      clear c0 c1 c2 hv hb1
      by_cases hm : mayV l[k]
      · rw [show decide (mayV ⟨l[k].stamp, l[k].gone, l[k].value⟩) = true from decide_eq_true hm]
        cases k with
        | zero =>
          have hok' : ∀ i (h : i < l.length), i < 1 → mayV l[i] ∧ (0 < i → l[i - 1].stamp < l[i].stamp) := fun i h h1 => by
            obtain rfl : i = 0 := by omega
            exact ⟨hm, fun h => absurd h (Nat.lt_irrefl _)⟩
          have HK := Lib.hid hok'
          clear hok hok' hm
          go_upto_region 5 with (fail)
          go_quiet (fail)
          go_wp2_with fail
          go_roundw
          case rel => exact ⟨1, by go_num, by omega, HK.out, Below.drewN q1 _⟩
          case measure => simp [intOf]; omega
        | succ k =>
          obtain ⟨b2, off2, A2, C2, e2, hb2, d0, d1, d2, hv2, hi2, hn12, hn22⟩ := hl2.ver k (by omega)
          injection e2 with e2; injection e2 with e3 e4; subst e3; subst e4
          have hk1 : ((k + 1 : Nat) : Int) - 1 = (k : Int) := by omega
          by_cases hs : l[k].stamp < l[k + 1].stamp
          · have hok' : ∀ i (h : i < l.length), i < k + 2 → mayV l[i] ∧ (0 < i → l[i - 1].stamp < l[i].stamp) := fun i h h1 => by
              rcases Nat.lt_or_ge i (k + 1) with h2 | h2
              · exact hok i h h2
              · obtain rfl : i = k + 1 := by omega
                exact ⟨hm, fun _ => hs⟩
            have HK := Lib.hid hok'
            have dS : decide (l[k + 1].stamp ≤ l[k].stamp) = false := by rw [decide_eq_false_iff_not]; omega
            clear hok hok' hm
            go_upto_region 5 with (fail)
            go_quiet (fail)
            go_wp2_with fail
            go_roundw
            case rel => exact ⟨k + 2, by go_num, by omega, HK.out, Below.drewN q1 _⟩
            case measure => simp [intOf]; omega
          · have hk := Lib.hid (show decide (okV l) = false from decide_eq_false (fun h => hs ((h (k + 1) hlt).2 (Nat.succ_pos _))))
            have dS : decide (l[k + 1].stamp ≤ l[k].stamp) = true := by rw [decide_eq_true_iff]; omega
            clear hok hm
            go_upto_region 5 with (fail)
            go_quiet (fail)
            go_wp2_with fail
            go_ret
            exact ⟨by rw [hk.out]; rfl, Below.drewN q1 _⟩
      · have hk := Lib.hid (show decide (okV l) = false from decide_eq_false (fun h => hm (h k hlt).1))
        rw [show decide (mayV ⟨l[k].stamp, l[k].gone, l[k].value⟩) = false from decide_eq_false hm]
        clear hok hm
        go_upto_region 5 with (fail)
        go_quiet (fail)
        go_wp2_with fail
        go_ret
        exact ⟨by rw [hk.out]; rfl, Below.drewN q1 _⟩
    · obtain rfl : k = l.length := by omega
      have hk := Lib.hid (show decide (okV l) = true from decide_eq_true (fun i h => hok i h h))
      clear hok
      go_wp2_with fail
      go_ret
      exact ⟨by rw [hk.out]; rfl, q⟩
end Go.Proofs.Yticngbgjfdcnhaa
namespace Go.Proofs.Yticngbgjfdcnhaa
open Go.RowKit
theorem slotIx_at : ∀ (l : List Oper) (k j : Nat) (o : Oper) (d : Tmp), (l.filterMap (·.dst)).Nodup → l[j]? = some o → o.dst = some d → slotIx l k d = some (k + j)
  | [], _, _, _, _, _, h, _ => by simp at h
  | o2 :: r, k, 0, o, d, _, hj, hd => by
    obtain rfl : o2 = o := by simpa using hj
    simp [slotIx, hd]
  | o2 :: r, k, j + 1, o, d, hn, hj, hd => by
    have hmem : d ∈ r.filterMap (·.dst) := List.mem_filterMap.2 ⟨o, List.mem_of_getElem? (by simpa using hj), hd⟩
    have hne : o2.dst ≠ some d := by
      intro e
      rw [List.filterMap_cons_some e, List.nodup_cons] at hn
      exact hn.1 hmem
    have hn' : (r.filterMap (·.dst)).Nodup := by
      cases hd2 : o2.dst with
      | none => rwa [List.filterMap_cons_none hd2] at hn
      | some d2 => rw [List.filterMap_cons_some hd2, List.nodup_cons] at hn; exact hn.2
    simp only [slotIx, if_neg hne]
    rw [slotIx_at r (k + 1) j o d hn' (by simpa using hj) hd]
    congr 1; omega
def gdB (ops : Array Oper) : Bool := (ops.toList.zipIdx.all fun p => p.1.after.all fun e => !Region.binds .any e || decide (e.on < p.2)) && slotsB ops.toList
theorem all_listed_gd {ops : Array Oper} {listed : Array Bool} (hs : gdB ops = true) (hr : Region.ready .any ops listed = []) : ∀ i, i < ops.size → listed.getD i true = true := by
  intro i
  induction i using Nat.strongRecOn with
  | ind i ih =>
    intro hi
    cases hl : listed.getD i true with
    | true => rfl
    | false =>
      exfalso
      have hm : i ∈ Region.ready .any ops listed := by
        unfold Region.ready
        refine List.mem_filter.2 ⟨List.mem_range.2 hi, ?_⟩
        have hdep : ∀ e ∈ (ops[i]'hi).after, Region.binds .any e = true → e.on < i := by
          intro e he hb
          simp only [gdB, Bool.and_eq_true, List.all_eq_true] at hs
          have := hs.1 ((ops[i]'hi), i) (by
            rw [List.mem_zipIdx_iff_getElem?]; simp [hi])
          rw [Array.all_eq_true'] at this
          have := this e he
          simpa [hb] using this
        simp only [hl, Array.getElem?_eq_getElem hi, Option.map_some, Option.getD_some, Bool.not_false, Bool.true_and]
        rw [Array.all_eq_true']
        intro e he
        cases hb : Region.binds .any e with
        | false => simp
        | true =>
          have hlt := hdep e he hb
          have := ih e.on hlt (by omega)
          simp only [Bool.not_true, Bool.false_or]
          revert this
          simp only [Array.getD_eq_getD_getElem?]
          cases hg : listed[e.on]? with
          | some b => simp
          | none =>
            exfalso
            rw [Array.getElem?_eq_none_iff] at hg
            simp only [Array.getD_eq_getD_getElem?, Array.getElem?_eq_none_iff.2 (show listed.size ≤ i by omega)] at hl
            cases hl
      rw [hr] at hm
      cases hm
end Go.Proofs.Yticngbgjfdcnhaa
namespace Go.Proofs.Yticngbgjfdcnhaa
open Go.RowKit
theorem wf_u8 {n : Int} (h : (Lit.int .u8 n).wf = true) : 0 ≤ n ∧ n < 256 := by
  simp [Lit.wf, IntKind.min, IntKind.max, IntKind.signed, IntKind.bits] at h; omega
end Go.Proofs.Yticngbgjfdcnhaa
namespace Go.Proofs.Yticngbgjfdcnhaa
open Go.RowKit
def NotU8 (v : Value) : Prop := ∀ i, v ≠ .int .u8 i
def IsBox (w : World) (t : TypeId) (b : Nat) : Prop := ∃ x y, w.heap[b]? = some (.cells #[x, y] t (0, 0)) ∧ NotU8 x ∧ NotU8 y
def BoxK (ok : Nat → Prop) (t : TypeId) (A B : World) : Prop := A = B ∨ ∃ b, ok b ∧ A.grownBy B (some b) ∧ IsBox A t b ∧ IsBox B t b
abbrev SGk (ok : Nat → Prop) (t : TypeId) := { G : World → Value → Prop // (∀ w v w', G w v → Below w.heap.size w w' → G w' v) ∧ (∀ w v w', G w v → BoxK ok t w w' → G w' v) }
section
variable {ok : Nat → Prop} {t : TypeId}
def kAny : SGk ok t := ⟨fun _ _ => True, fun _ _ _ h _ => h, fun _ _ _ h _ => h⟩
end
section
variable {P : Program} {Q : Exit → Act → World → Prop}
def kk (ok : Nat → Prop) (t : TypeId) (m : Nat) (i : Nat) (A B : World) : Prop := if i = m then BoxK ok t A B else Below A.heap.size A B
def gk {ok : Nat → Prop} {t : TypeId} (Gs : List (SGk ok t)) (m : Nat) (Gm : SG) (i : Nat) : World → Value → Prop := if i = m then Gm.1 else (Gs.getD i kAny).1
end
structure PrP (P : Program) (t : TypeId) (x0 y0 : Value) : Prop where
  hu : ∃ f0 f1, P.underlying t = some (.struct #[f0, f1]) ∧ f0.offset = 0 ∧ f1.offset = 1 ∧ (P.info? f0.type).map (·.size) = some 1 ∧ (P.info? f1.type).map (·.size) = some 1
  hi : (P.info? t).map (fun i => (i.zero, i.size)) = some (some (.agg #[x0, y0]), 2)
section
variable {P : Program} {t : TypeId} {x0 y0 : Value} {o : Oper} {a : Act} {K : Act → World → Prop} {Q : Exit → Act → World → Prop} {w : World}
theorem run_sizeOf {ty : TypeId} {n : Nat} (h : (P.info? ty).map (·.size) = some n) (w : World) : (sizeOf ty).run P w = .ok n w := by
  cases hi : P.info? ty with
  | none => simp [hi] at h
  | some i => simp [hi] at h; simp [sizeOf, typeInfo, hi, h]
theorem PrP.zero (hP : PrP P t x0 y0) (w : World) : (zeroValue t).run P w = .ok (.agg #[x0, y0]) w := by
  have h := hP.hi
  cases hi : P.info? t with
  | none => simp [hi] at h
  | some i => simp [hi] at h; simp [zeroValue, typeInfo, hi, h.1]
theorem wp_buildP (hP : PrP P t x0 y0) {x y : Operand} {u v : Value} (ho : o.op = .build t #[(0, x), (1, y)]) (hx : a.eval x = u) (hy : a.eval y = v) (hu1 : u.cells = #[u]) (hv1 : v.cells = #[v]) (h : K (a.put o.dst (.agg #[u, v])) w) : o.wp P a w K Q := by
  obtain ⟨f0, f1, hu, e0, e1, s0, s1⟩ := hP.hu
  refine wp_run ?_ h
  simp only [execOp, ho, List.map_toArray, List.map_cons, List.map_nil, hx, hy]
  simp [Instr.build, run_underlying hu, hP.zero, run_sizeOf s0, run_sizeOf s1, Instr.fill, hu1, hv1, e0, e1, show (Value.agg #[x0, y0]).cells = #[x0, y0] from rfl]
theorem wp_skip {w2 : World} (hrun : (execOp a.eval o).run P w = .ok .skip w2) (h : K (a.put o.dst undef) w2) : o.wp P a w K Q := by
  unfold Oper.wp
  rw [hrun]
  exact h
end
theorem size_set (W : World) (p : Addr) (z : Value) : (W.setCell p z).heap.size = W.heap.size := by simp [World.setCell]
end Go.Proofs.Yticngbgjfdcnhaa
namespace Go.Proofs.Yticngbgjfdcnhaa
open Go.RowKit
def preB (ops : Array Oper) (m : Nat) (pre : Nat → Bool) : Bool :=
  (List.range ops.size).all fun i => !pre i || (decide (m < ops.size) && (List.range ops.size).any fun j => decide (i < j) && (j == m || pre j) && (ops[j]?).any fun o => o.after.any fun e => e.on == i && Region.binds .any e)
theorem preB_get {ops : Array Oper} {m : Nat} {pre : Nat → Bool} (h : preB ops m pre = true) {i : Nat} (hi : i < ops.size) (hp : pre i = true) :
    m < ops.size ∧ ∃ j o, i < j ∧ j < ops.size ∧ (j = m ∨ pre j = true) ∧ ops[j]? = some o ∧ ∃ e ∈ o.after, e.on = i ∧ Region.binds .any e = true := by
  simp only [preB, List.all_eq_true, List.mem_range] at h
  have h1 := h i hi
  simp only [hp, Bool.not_true, Bool.false_or, Bool.and_eq_true, decide_eq_true_eq, List.any_eq_true, List.mem_range, Bool.or_eq_true, beq_iff_eq] at h1
  obtain ⟨hm, j, hj, ⟨hij, hjm⟩, ho⟩ := h1
  cases hoj : ops[j]? with
  | none => rw [hoj] at ho; simp at ho
  | some o =>
    rw [hoj] at ho
    simp only [Option.any_some, Array.any_eq_true', Bool.and_eq_true, beq_iff_eq] at ho
    exact ⟨hm, j, o, hij, hj, hjm, hoj, ho⟩
theorem preB_lt {ops : Array Oper} {m : Nat} {pre : Nat → Bool} (h : preB ops m pre = true) {i : Nat} (hi : i < ops.size) (hp : pre i = true) : m < ops.size := (preB_get h hi hp).1
theorem pre_listed {ops : Array Oper} {m : Nat} {pre : Nat → Bool} {listed : Array Bool} (h : preB ops m pre = true)
    (hcl : ∀ j o, ops[j]? = some o → listed.getD j true = true → ∀ e ∈ o.after, Region.binds .any e = true → listed.getD e.on true = true) (hm : listed.getD m true = true) : ∀ i, i < ops.size → pre i = true → listed.getD i true = true := by
  have key : ∀ (d i : Nat), ops.size - i ≤ d → i < ops.size → pre i = true → listed.getD i true = true := by
    intro d
    induction d with
    | zero => intro i hd hi _; omega
    | succ d ih =>
      intro i hd hi hp
      obtain ⟨_, j, o, hij, hj, hjm, hoj, e, he, rfl, hbn⟩ := preB_get h hi hp
      refine hcl j o hoj ?_ e he hbn
      rcases hjm with rfl | hpj
      · exact hm
      · exact ih j (by omega) hj hpj
  exact fun i hi hp => key _ i (Nat.le_refl _) hi hp
def postB (ops : Array Oper) (m : Nat) (post : Nat → Bool) : Bool :=
  (List.range ops.size).all fun i => !post i || (ops[i]?).any fun o => o.after.any fun e => Region.binds .any e && (e.on == m || (decide (e.on < i) && post e.on))
theorem post_listed {ops : Array Oper} {m : Nat} {post : Nat → Bool} {listed : Array Bool} (h : postB ops m post = true)
    (hcl : ∀ j o, ops[j]? = some o → listed.getD j true = true → ∀ e ∈ o.after, Region.binds .any e = true → listed.getD e.on true = true) : ∀ i, i < ops.size → post i = true → listed.getD i true = true → listed.getD m true = true := by
  intro i
  induction i using Nat.strongRecOn with
  | ind i ih =>
    intro hi hp hl
    simp only [postB, List.all_eq_true, List.mem_range] at h
    have h1 := h i hi
    simp only [hp, Bool.not_true, Bool.false_or] at h1
    cases ho : ops[i]? with
    | none => rw [ho] at h1; simp at h1
    | some o =>
      rw [ho] at h1
      simp only [Option.any_some, Array.any_eq_true', Bool.and_eq_true, Bool.or_eq_true, beq_iff_eq, decide_eq_true_eq] at h1
      obtain ⟨e, he, hbn, hm | ⟨hlt, hpe⟩⟩ := h1
      · rw [← hm]; exact hcl i o ho hl e he hbn
      · exact ih e.on hlt (by omega) hpe (hcl i o ho hl e he hbn)
section
variable {P : Program} {Q : Exit → Act → World → Prop}
def SoftOpM (P : Program) (Q : Exit → Act → World → Prop) (ops : Array Oper) (a : Act) (K : Nat → World → World → Prop) (R R0 : World → Prop) (m : Nat) (pre post drop : Nat → Bool) (G : (Nat → Value) → Nat → World → Value → Prop) (i : Nat) (o : Oper) : Prop :=
  ∀ (A : Act) (vs : Nat → Value) (w' : World), (∀ t, slotIx ops.toList 0 t = none → A.eval (.tmp t) = a.eval (.tmp t)) → (∀ t j, t < a.tmps.size → slotIx ops.toList 0 t = some j → A.eval (.tmp t) = vs j) → R w' → (pre i = true ∨ i = m → R0 w') → (pre i = true ∨ i = m → ∀ j d, post j = true → (ops[j]?).bind (·.dst) = some d → vs j = a.eval (.tmp d)) →
    (∀ e ∈ o.after, (Region.binds .any e && (pre i || i == m || !drop e.on)) = true → G vs e.on w' (vs e.on)) → o.wp P A w' (fun a2 w2 => ∃ v, a2 = A.put o.dst v ∧ G vs i w2 v ∧ K i w' w2) Q
def GdOpM (P : Program) (Q : Exit → Act → World → Prop) (ops : Array Oper) (a : Act) (K : Nat → World → World → Prop) (R R0 : World → Prop) (m : Nat) (pre post drop : Nat → Bool) (G : (Nat → Value) → Nat → World → Value → Prop) (i : Nat) (o : Oper) : Prop :=
  match o.guard with
  | none => SoftOpM P Q ops a K R R0 m pre post drop G i o
  | some (j, b) => (∃ oj d, ops[j]? = some oj ∧ oj.dst = some d ∧ d < a.tmps.size) ∧ (o.after.any fun e => e.on == j && (Region.binds .any e && !drop e.on)) = true ∧
      (((∀ vs w v, G vs j w v → v = .bool b) ∧ SoftOpM P Q ops a K R R0 m pre post drop G i o) ∨ ((∀ vs w v, G vs j w v → v = .bool (!b) ∨ v = undef) ∧ ∀ vs w, G vs i w undef))
theorem GdOpM.plain {ops : Array Oper} {a : Act} {K : Nat → World → World → Prop} {R R0 : World → Prop} {m : Nat} {pre post drop : Nat → Bool} {G : (Nat → Value) → Nat → World → Value → Prop} {i : Nat} {o : Oper} (h : o.guard = none) (h2 : SoftOpM P Q ops a K R R0 m pre post drop G i o) : GdOpM P Q ops a K R R0 m pre post drop G i o := by
  unfold GdOpM; rw [h]; exact h2
def GdAllM (P : Program) (Q : Exit → Act → World → Prop) (ops : Array Oper) (a : Act) (K : Nat → World → World → Prop) (R R0 : World → Prop) (m : Nat) (pre post drop : Nat → Bool) (G : (Nat → Value) → Nat → World → Value → Prop) : Nat → List Oper → Prop
  | _, [] => True
  | i, o :: rest => GdOpM P Q ops a K R R0 m pre post drop G i o ∧ GdAllM P Q ops a K R R0 m pre post drop G (i + 1) rest
theorem GdAllM.get {ops : Array Oper} {a : Act} {K : Nat → World → World → Prop} {R R0 : World → Prop} {m : Nat} {pre post drop : Nat → Bool} {G : (Nat → Value) → Nat → World → Value → Prop} : ∀ (l : List Oper) (k j : Nat) (o : Oper), GdAllM P Q ops a K R R0 m pre post drop G k l → l[j]? = some o → GdOpM P Q ops a K R R0 m pre post drop G (k + j) o
  | [], _, _, _, _, h => by simp at h
  | o' :: rest, k, 0, o, h, hj => by obtain rfl : o' = o := by simpa using hj
                                     exact h.1
  | o' :: rest, k, j + 1, o, h, hj => by rw [show k + (j + 1) = k + 1 + j by omega]; exact GdAllM.get rest (k + 1) j o h.2 (by simpa using hj)
theorem wp_region_m {id : Nat} {ops : Array Oper} {a : Act} {w : World} (hm : P.follows .mixedOrders = true) (hs : gdB ops = true) (K : Nat → World → World → Prop) (R R0 : World → Prop) (m : Nat) (pre post drop : Nat → Bool) (G : (Nat → Value) → Nat → World → Value → Prop)
    (hpre : preB ops m pre = true) (hKr : ∀ i w, K i w w) (hR0 : R { w with drawn := w.drawn + 1 }) (hR00 : R0 { w with drawn := w.drawn + 1 }) (hRs : ∀ i A B, R A → K i A B → R B) (hR0s : ∀ i A B, i ≠ m → post i = false → R0 A → K i A B → R0 B) (hpost : postB ops m post = true) (hst : ∀ vs i j w v w', i ≠ j → (j = m → post i = false ∧ drop i = false) → G vs i w v → K j w w' → G vs i w' v)
    (hlnk : ∀ (vs us : Nat → Value) i w v, (∀ o, ops[i]? = some o → ∀ e ∈ o.after, Region.binds .any e = true → vs e.on = us e.on) → G vs i w v → G us i w v) (hop : GdAllM P Q ops a K R R0 m pre post drop G 0 ops.toList)
    (hend : ∀ (vs : Nat → Value) (w' : World), R w' → (∀ i, i < ops.size → drop i = false → G vs i w' (vs i)) → Q .normal (putAll a ops.toList vs 0) w') : (Code.region id ops true).wp P Q a w := by
  refine wp_region_any hm ?_
  have hnd : (ops.toList.filterMap (·.dst)).Nodup := by simp only [gdB, slotsB, Bool.and_eq_true, decide_eq_true_eq] at hs; exact hs.2
  have main : ∀ (fuel : Nat) (listed : Array Bool) (vs : Nat → Value) (w' : World), listed.size = ops.size → (unlisted ops.size listed).length ≤ fuel → R w' →
      (∀ i, i < ops.size → listed.getD i true = true → (drop i = true → listed.getD m true = false) → G vs i w' (vs i)) → (∀ i o, ops[i]? = some o → listed.getD i true = true → ∀ e ∈ o.after, Region.binds .any e = true → e.on < ops.size ∧ listed.getD e.on true = true) → (m < ops.size → listed.getD m true = false → R0 w') → (∀ j, j < ops.size → listed.getD j true = false → ∀ d, (ops[j]?).bind (·.dst) = some d → vs j = a.eval (.tmp d)) → wpAny P .any ops Q fuel listed (putAll a ops.toList vs 0) w' := by
    intro fuel
    induction fuel with
    | zero =>
      intro listed vs w' hsz hu hb hG hcl hR0m hun
      have hall : ∀ i, i < ops.size → listed.getD i true = true := by
        intro i hi
        cases hl : listed.getD i true with
        | true => rfl
        | false =>
          have : i ∈ unlisted ops.size listed := List.mem_filter.2 ⟨List.mem_range.2 hi, by simp [hl]⟩
          rw [List.eq_nil_of_length_eq_zero (Nat.le_zero.1 hu)] at this
          cases this
      refine ⟨?_, hend vs w' hb (fun i hi hdi => hG i hi (hall i hi) (fun h => by rw [hdi] at h; cases h))⟩
      unfold Region.ready
      rw [List.filter_eq_nil_iff]
      intro i hi
      simp [hall i (List.mem_range.1 hi)]
    | succ fuel ih =>
      intro listed vs w' hsz hu hb hG hcl hR0m hun
      refine ⟨fun hr => hend vs w' hb (fun i hi hdi => hG i hi (all_listed_gd hs hr i hi) (fun h => by rw [hdi] at h; cases h)), fun i hi => ?_⟩
      unfold Region.ready at hi
      obtain ⟨hi1, hi2⟩ := List.mem_filter.1 hi
      have hlt := List.mem_range.1 hi1
      rw [Bool.and_eq_true] at hi2
      obtain ⟨hl, hdep⟩ := hi2
      have hl' : listed.getD i true = false := by simpa using hl
      obtain ⟨o, ho⟩ : ∃ o, ops[i]? = some o := ⟨_, Array.getElem?_eq_getElem hlt⟩
      rw [ho] at hdep
      simp only [Option.map_some, Option.getD_some] at hdep
      rw [Array.all_eq_true'] at hdep
      have hgop := GdAllM.get ops.toList 0 i o hop (by rw [Array.getElem?_toList]; exact ho)
      rw [Nat.zero_add] at hgop
      have hdepG : ∀ e ∈ o.after, Region.binds .any e = true → e.on < ops.size ∧ listed.getD e.on true = true ∧ ((pre i = true ∨ i = m ∨ drop e.on = false) → G vs e.on w' (vs e.on)) := by
        intro e he hbn
        have h := hdep e he
        rw [hbn] at h
        simp only [Bool.not_true, Bool.false_or] at h
        have hin : e.on < listed.size := by
          rcases Nat.lt_or_ge e.on listed.size with h' | h'
          · exact h'
          · simp [Array.getD_eq_getD_getElem?, Array.getElem?_eq_none_iff.2 h'] at h
        have hl2 : listed.getD e.on true = true := by
          simp only [Array.getD_eq_getD_getElem?, Array.getElem?_eq_getElem hin, Option.getD_some] at h ⊢
          exact h
        refine ⟨by omega, hl2, fun hpm => hG e.on (by omega) hl2 (fun hde => ?_)⟩
        cases hlm : listed.getD m true with
        | false => rfl
        | true =>
          rcases hpm with h3 | rfl | h3
          · have := pre_listed hpre (fun j oj hoj hlj e he hbn => (hcl j oj hoj hlj e he hbn).2) hlm i hlt h3
            rw [hl'] at this
            cases this
          · rw [hl'] at hlm; cases hlm
          · rw [hde] at h3; cases h3
      have hR0i : pre i = true ∨ i = m → R0 w' := by
        rintro (h | rfl)
        · refine hR0m (preB_lt hpre hlt h) ?_
          cases hlm : listed.getD m true with
          | false => rfl
          | true =>
            have := pre_listed hpre (fun j oj hoj hlj e he hbn => (hcl j oj hoj hlj e he hbn).2) hlm i hlt h
            rw [hl'] at this
            cases this
        · exact hR0m hlt hl'
      have hUi : pre i = true ∨ i = m → ∀ j d, post j = true → (ops[j]?).bind (·.dst) = some d → vs j = a.eval (.tmp d) := by
        intro h j d hpj hd
        have hjs : j < ops.size := by
          rcases Nat.lt_or_ge j ops.size with h' | h'
          · exact h'
          · rw [Array.getElem?_eq_none_iff.2 h'] at hd; cases hd
        refine hun j hjs ?_ d hd
        cases hlj : listed.getD j true with
        | false => rfl
        | true =>
          have hml := post_listed hpost (fun j2 oj hoj hlj2 e he hbn => (hcl j2 oj hoj hlj2 e he hbn).2) j hjs hpj hlj
          rcases h with h | rfl
          · have := pre_listed hpre (fun j oj hoj hlj e he hbn => (hcl j oj hoj hlj e he hbn).2) hml i hlt h
            rw [hl'] at this
            cases this
          · rw [hl'] at hml; cases hml
      have step : ∀ (v : Value) (w2 : World), K i w' w2 → G vs i w2 v → wpAny P .any ops Q fuel (listed.setIfInBounds i true) ((putAll a ops.toList vs 0).put o.dst v) w2 := by
        intro v w2 hb2 hg
        rw [putAll_put ops.toList a vs 0 i o v hnd (by rw [Array.getElem?_toList]; exact ho), Nat.zero_add]
        have hne : ∀ e : Edge, listed.getD e.on true = true → e.on ≠ i := fun e h e2 => by rw [e2, hl'] at h; cases h
        have hkeep : ∀ j, listed.getD j true = true → (listed.setIfInBounds i true).getD j true = true := fun j h => by
          by_cases hji : j = i
          · subst hji; rw [hl'] at h; cases h
          · simp only [Array.getD_eq_getD_getElem?, Array.getElem?_setIfInBounds_ne (Ne.symm hji)] at h ⊢; exact h
        have hback : ∀ j, j ≠ i → (listed.setIfInBounds i true).getD j true = true → listed.getD j true = true := fun j hji h => by
          simp only [Array.getD_eq_getD_getElem?, Array.getElem?_setIfInBounds_ne (Ne.symm hji)] at h ⊢; exact h
        refine ih _ _ _ (by simp [hsz]) (by have := unlisted_set hsz hlt hl'; omega) (hRs i _ _ hb hb2) (fun j hj hlj hdj => ?_) (fun j oj hoj hlj e he hbn => ?_) (fun hm1 hm2 => ?_) (fun j hj hlj d hd => ?_)
        · by_cases hji : j = i
          · subst hji
            refine hlnk vs _ j w2 _ (fun o2 ho2 e he hbn => ?_) (by simpa [upd] using hg)
            obtain rfl : o = o2 := by rw [ho] at ho2; injection ho2
            have := hne e (hdepG e he hbn).2.1
            simp [upd, this]
          · have hlj' := hback j hji hlj
            have hv : upd vs i v j = vs j := by simp [upd, hji]
            rw [hv]
            refine hlnk vs _ j w2 _ (fun o2 ho2 e he hbn => ?_) (hst vs j i w' _ w2 hji (fun him => ?_) (hG j hj hlj' (fun hdt => ?_)) hb2)
            rotate_left
            · constructor
              · cases hpj : post j with
                | false => rfl
                | true =>
                  have := post_listed hpost (fun j2 oj hoj hlj2 e he hbn => (hcl j2 oj hoj hlj2 e he hbn).2) j hj hpj hlj'
                  rw [← him, hl'] at this
                  cases this
              · cases hdr : drop j with
                | false => rfl
                | true =>
                  have := hdj hdr
                  rw [← him] at this
                  simp only [Array.getD_eq_getD_getElem?, Array.getElem?_setIfInBounds_self_of_lt (by omega : i < listed.size)] at this
                  cases this
            · have := hdj hdt
              by_cases him : i = m
              · rw [← him]; exact hl'
              · simp only [Array.getD_eq_getD_getElem?, Array.getElem?_setIfInBounds_ne him] at this ⊢
                exact this
            have := hne e (hcl j o2 ho2 hlj' e he hbn).2
            simp [upd, this]
        · by_cases hji : j = i
          · subst hji
            obtain rfl : o = oj := by rw [ho] at hoj; injection hoj
            exact ⟨(hdepG e he hbn).1, hkeep _ (hdepG e he hbn).2.1⟩
          · have := hcl j oj hoj (hback j hji hlj) e he hbn
            exact ⟨this.1, hkeep _ this.2⟩
        · have him : i ≠ m := by
            intro e
            subst e
            simp only [Array.getD_eq_getD_getElem?, Array.getElem?_setIfInBounds_self_of_lt (by omega : i < listed.size)] at hm2
            cases hm2
          have hml : listed.getD m true = false := by
            simp only [Array.getD_eq_getD_getElem?, Array.getElem?_setIfInBounds_ne him] at hm2 ⊢
            exact hm2
          have hpi : post i = false := by
            cases hpi : post i with
            | false => rfl
            | true =>
              have h := hpost
              simp only [postB, List.all_eq_true, List.mem_range] at h
              have h1 := h i hlt
              simp only [hpi, Bool.not_true, Bool.false_or, ho, Option.any_some, Array.any_eq_true', Bool.and_eq_true, Bool.or_eq_true, beq_iff_eq, decide_eq_true_eq] at h1
              obtain ⟨e, he, hbn, h2 | ⟨_, hpe⟩⟩ := h1
              · have := (hdepG e he hbn).2.1
                rw [h2, hml] at this
                cases this
              · have := post_listed hpost (fun j2 oj hoj hlj2 e he hbn => (hcl j2 oj hoj hlj2 e he hbn).2) e.on (hdepG e he hbn).1 hpe (hdepG e he hbn).2.1
                rw [hml] at this
                cases this
          exact hR0s i _ _ him hpi (hR0m hm1 hml) hb2
        · have hji : j ≠ i := by
            intro e
            subst e
            simp only [Array.getD_eq_getD_getElem?, Array.getElem?_setIfInBounds_self_of_lt (by omega : j < listed.size)] at hlj
            cases hlj
          rw [show upd vs i v j = vs j by simp [upd, hji]]
          refine hun j hj ?_ d hd
          simp only [Array.getD_eq_getD_getElem?, Array.getElem?_setIfInBounds_ne (Ne.symm hji)] at hlj ⊢
          exact hlj
      have run : SoftOpM P Q ops a K R R0 m pre post drop G i o → o.wp P (putAll a ops.toList vs 0) w' (wpAny P .any ops Q fuel (listed.setIfInBounds i true)) Q := by
        intro hsoft
        have hwp := hsoft (putAll a ops.toList vs 0) vs w' (fun t h => eval_putAll_out _ _ _ _ _ h) (fun t j ht h => eval_putAll_in _ _ _ _ _ _ hnd ht h) hb hR0i hUi (fun e he hbn => by
          simp only [Bool.and_eq_true, Bool.or_eq_true, beq_iff_eq, Bool.not_eq_true'] at hbn
          exact (hdepG e he hbn.1).2.2 (hbn.2.elim (fun h => h.elim .inl (fun h => .inr (.inl h))) (fun h => .inr (.inr h))))
        refine Oper.wp_mono ?_ hwp
        rintro a2 w2 ⟨v, rfl, hg, hb2⟩
        exact step v w2 hb2 hg
      unfold wpOp
      simp only [ho]
      unfold GdOpM at hgop
      cases hgd : o.guard with
      | none =>
        rw [hgd] at hgop
        simp only [Region.wanted, hgd, if_true]
        exact .inl (run hgop)
      | some p =>
        obtain ⟨j, b⟩ := p
        rw [hgd] at hgop
        obtain ⟨⟨oj, d, hoj, hd, hdlt⟩, hany, hcase⟩ := hgop
        rw [Array.any_eq_true'] at hany
        obtain ⟨e, he, hej⟩ := hany
        simp only [Bool.and_eq_true, beq_iff_eq, Bool.not_eq_true'] at hej
        obtain ⟨rfl, hbn, hde⟩ := hej
        have hgj := (hdepG e he hbn).2.2 (.inr (.inr hde))
        have hix : slotIx ops.toList 0 d = some e.on := by
          have := slotIx_at ops.toList 0 e.on oj d hnd (by rw [Array.getElem?_toList]; exact hoj) hd
          simpa using this
        have hev := eval_putAll_in ops.toList a vs 0 d e.on hnd hdlt hix
        have hy : ∀ c, vs e.on = .bool c → yielded ops (putAll a ops.toList vs 0).tmps e.on = some c := by
          intro c hc
          have h1 : (putAll a ops.toList vs 0).tmps.getD d undef = .bool c := by
            have h2 : (putAll a ops.toList vs 0).eval (.tmp d) = (putAll a ops.toList vs 0).tmps.getD d undef := rfl
            rw [← h2, hev]; exact hc
          rw [Array.getD_eq_getD_getElem?] at h1
          cases hx : (putAll a ops.toList vs 0).tmps[d]? with
          | none => rw [hx] at h1; exact absurd h1 (by simp [undef])
          | some u =>
            rw [hx] at h1
            simp only [Option.getD_some] at h1
            simp [yielded, hoj, hd, hx, h1]
        rcases hcase with ⟨hv, hsoft⟩ | ⟨hv, hun⟩
        · have hyes := hy b (hv _ _ _ hgj)
          simp only [Region.wanted, hgd, hyes, beq_self_eq_true, if_true]
          exact .inl (run hsoft)
        · have hw0 : Region.wanted o (yielded ops (putAll a ops.toList vs 0).tmps) = false := by
            rcases hv _ _ _ hgj with hv | hv
            · simp only [Region.wanted, hgd, hy (!b) hv]; cases b <;> rfl
            · have h1 : (putAll a ops.toList vs 0).tmps.getD d undef = undef := by
                have h2 : (putAll a ops.toList vs 0).eval (.tmp d) = (putAll a ops.toList vs 0).tmps.getD d undef := rfl
                rw [← h2, hev]; exact hv
              have h3 : yielded ops (putAll a ops.toList vs 0).tmps e.on = none := by
                rw [Array.getD_eq_getD_getElem?] at h1
                cases hx : (putAll a ops.toList vs 0).tmps[d]? with
                | none => simp [yielded, hoj, hd, hx]
                | some u =>
                  rw [hx] at h1
                  simp only [Option.getD_some] at h1
                  subst h1
                  simp [yielded, hoj, hd, hx, undef]
              simp only [Region.wanted, hgd, h3]; cases b <;> rfl
          simp only [hw0]
          exact step undef w' (hKr i w') (hun vs w')
  have h0 := main ops.size (Array.replicate ops.size false) (fun i => ((ops[i]?).bind (·.dst)).elim undef (fun d => a.tmps.getD d undef)) { w with drawn := w.drawn + 1 } (by simp)
    (by have := List.length_filter_le (fun i => !(Array.replicate ops.size false).getD i true) (List.range ops.size); simpa [unlisted] using this) hR0
    (fun i hi h => by simp [Array.getD_eq_getD_getElem?, hi] at h)
    (fun i o ho h => by
      have hi : i < ops.size := (Array.getElem?_eq_some_iff.1 ho).1
      simp [Array.getD_eq_getD_getElem?, hi] at h) (fun _ _ => hR00)
    (fun j hj _ d hd => by simp only [hd, Option.elim_some]; rfl)
  rw [putAll_orig ops.toList a _ 0 (fun j o d hj hd => by
    rw [Array.getElem?_toList] at hj
    simp [hj, hd])] at h0
  exact h0
end
abbrev SGm (Km : World → World → Prop) := { G : World → Value → Prop // (∀ w v w', G w v → Below w.heap.size w w' → G w' v) ∧ (∀ w v w', G w v → Km w w' → G w' v) }
section
variable {Km : World → World → Prop}
def mEq (u : Value) : SGm Km := ⟨fun _ v => v = u, fun _ _ _ h _ => h, fun _ _ _ h _ => h⟩
def mAny : SGm Km := ⟨fun _ _ => True, fun _ _ _ h _ => h, fun _ _ _ h _ => h⟩
def km (Km : World → World → Prop) (m i : Nat) (A B : World) : Prop := if i = m then Km A B else Below A.heap.size A B
end
def gq {Km : World → World → Prop} (Gs : List (SGm Km)) (m : Nat) (Gm : SG) (post : Nat → Bool) (Gp : Nat → SG) (drop : Nat → Bool) (_ : Nat → Value) (i : Nat) : World → Value → Prop := if i = m then Gm.1 else if (post i || drop i) = true then (Gp i).1 else (Gs.getD i mAny).1
section
variable {P : Program} {Q : Exit → Act → World → Prop}
theorem wp_region_sink2 {id : Nat} {ops : Array Oper} {a : Act} {w : World} (hm : P.follows .mixedOrders = true) (hs : gdB ops = true) (Km : World → World → Prop) (m : Nat) (pre : Nat → Bool) (hpre : preB ops m pre = true) (post : Nat → Bool) (hpost : postB ops m post = true) (drop : Nat → Bool) (R : World → Prop) (hR : ∀ A, Below w.heap.size w A → R A)
    (hKr : ∀ w, Km w w) (hRb : ∀ A B, R A → Below A.heap.size A B → R B) (hRk : ∀ A B, R A → Km A B → R B) (Gs : List (SGm Km)) (Gm : SG) (Gp : Nat → SG)
    (hop : GdAllM P Q ops a (km Km m) R (Below w.heap.size w) m pre post drop (gq Gs m Gm post Gp drop) 0 ops.toList)
    (hend : ∀ (vs : Nat → Value) (w' : World), R w' → (∀ i, i < ops.size → drop i = false → gq Gs m Gm post Gp drop vs i w' (vs i)) → Q .normal (putAll a ops.toList vs 0) w') : (Code.region id ops true).wp P Q a w := by
  refine wp_region_m hm hs (km Km m) R (Below w.heap.size w) m pre post drop (gq Gs m Gm post Gp drop) hpre ?_ (hR _ ⟨rfl, rfl, rfl, Nat.le_refl _, fun _ _ => rfl⟩) ⟨rfl, rfl, rfl, Nat.le_refl _, fun _ _ => rfl⟩ ?_ ?_ hpost ?_ ?_ hop hend
  · intro i w
    unfold km
    split
    · exact hKr w
    · exact Below.refl _ _
  · intro i A B h k
    unfold km at k
    split at k
    · exact hRk _ _ h k
    · exact hRb _ _ h k
  · intro i A B hi _ h k
    unfold km at k
    rw [if_neg hi] at k
    exact h.trans (k.mono h.size)
  · intro vs i j w v w' hij hpo hG hK
    unfold km at hK
    unfold gq at hG ⊢
    split at hK
    · rename_i hj
      rw [if_neg (by omega), if_neg (by rw [(hpo hj).1, (hpo hj).2]; simp)] at hG ⊢
      exact (Gs.getD i mAny).2.2 w v w' hG hK
    · split
      · rename_i hi
        rw [if_pos hi] at hG
        exact Gm.2 w v w' hG hK
      · rename_i hi
        rw [if_neg hi] at hG
        split
        · rename_i hp
          rw [if_pos hp] at hG
          exact (Gp i).2 w v w' hG hK
        · rename_i hp
          rw [if_neg hp] at hG
          exact (Gs.getD i mAny).2.1 w v w' hG hK
  · intro vs us i w v _ hG
    exact hG
end
theorem grown_trans {A B C : World} {r : Option Nat} (h : A.grownBy B r) (k : B.grownBy C r) : A.grownBy C r :=
  ⟨k.os.trans h.os, k.tape.trans h.tape, k.output.trans h.output, Nat.le_trans h.size k.size, fun i hi hn => (k.block i (Nat.lt_of_lt_of_le hi h.size) hn).trans (h.block i hi hn)⟩
theorem grown_refl (A : World) (r : Option Nat) : A.grownBy A r := ⟨rfl, rfl, rfl, Nat.le_refl _, fun _ _ _ => rfl⟩
theorem grown_below' {A B : World} (h : Below A.heap.size A B) (r : Option Nat) : A.grownBy B r := ⟨h.os, h.tape, h.output, h.size, fun k hk _ => h.block k hk⟩
end Go.Proofs.Yticngbgjfdcnhaa
namespace Go.Proofs.Yticngbgjfdcnhaa
open Go.RowKit Go.Shelf
theorem cells_at {w : World} {b : Nat} {t : TypeId} {us : List Value} (h : w.heap[b]? = some (.cells us.toArray t (0, 0))) (j : Nat) (u : Value) (hj : us[j]? = some u) : w.cell? (Addr.add ⟨b, 0, none⟩ j) = some u := by
  rw [Addr.add_lit, World.cell?, h]
  simpa using hj
end Go.Proofs.Yticngbgjfdcnhaa
namespace Go.Proofs.Yticngbgjfdcnhaa
open Go.RowKit Go.Shelf
theorem vacV_zero {l : List Ver} {s : Int} (h : cntV l s = 0) : vacV l s = l := by unfold vacV; split <;> simp [h]
theorem vacV_gone {l : List Ver} {s : Int} {m : Nat} (hk : okV l) (h : cntV l s = m + 1) (hm : m < l.length) (hg : l[m].gone = true) : vacV l s = l.drop (m + 1) := by
  unfold vacV
  rw [if_pos hk, dif_pos (by omega)]
  simp only [h, Nat.add_sub_cancel, hg, if_true]
theorem vacV_some {l : List Ver} {s : Int} {m : Nat} (hk : okV l) (h : cntV l s = m + 1) (hm : m < l.length) (hg : l[m].gone = false) : vacV l s = l.drop m := by
  unfold vacV
  rw [if_pos hk, dif_pos (by omega)]
  simp only [h, Nat.add_sub_cancel, hg, Bool.false_eq_true, if_false]
end Go.Proofs.Yticngbgjfdcnhaa
namespace Go.Proofs.Yticngbgjfdcnhaa
theorem lastAt_spec (l : List Ver) (s : Int) : ∀ k, k ≤ l.length → (∀ i (h : i < l.length), lastAt l s k ≤ i → i < k → ¬ l[i].stamp ≤ s) ∧ (∀ m (h : m < l.length), lastAt l s k = m + 1 → l[m].stamp ≤ s)
  | 0, _ => ⟨fun i _ _ h => absurd h (Nat.not_lt_zero _), fun m _ h => by simp [lastAt] at h⟩
  | k + 1, hk => by
    obtain ⟨h1, h2⟩ := lastAt_spec l s k (by omega)
    by_cases hs : l[k].stamp ≤ s
    · rw [lastAt_yes (by omega) hs]
      exact ⟨fun i _ h3 h4 => by omega, fun m hm e => by obtain rfl : m = k := by omega
                                                         exact hs⟩
    · rw [lastAt_no (by omega) hs]
      refine ⟨fun i hi h3 h4 => ?_, h2⟩
      rcases Nat.lt_or_ge i k with h5 | h5
      · exact h1 i hi h3 h5
      · obtain rfl : i = k := by omega
        exact hs
theorem okV_lt {l : List Ver} (hk : okV l) : ∀ d i (h : i + d < l.length), 0 < d → l[i].stamp < l[i + d].stamp
  | 0, _, _, h => absurd h (Nat.lt_irrefl _)
  | d + 1, i, h, _ => by
    have h1 := (hk (i + d + 1) h).2 (by omega)
    simp only [Nat.add_sub_cancel] at h1
    rcases Nat.eq_zero_or_pos d with rfl | h2
    · exact h1
    · have := okV_lt hk d i (by omega) h2
      exact Int.lt_trans this h1
theorem okV_mono {l : List Ver} (hk : okV l) {i j : Nat} (hij : i < j) (hj : j < l.length) : (l[i]'(by omega)).stamp < l[j].stamp := by
  have := okV_lt hk (j - i) i (by omega) (by omega)
  simpa [show i + (j - i) = j by omega] using this
theorem cnt_iff {l : List Ver} (hk : okV l) (s : Int) {i : Nat} (h : i < l.length) : l[i].stamp ≤ s ↔ i < cntV l s := by
  obtain ⟨h1, h2⟩ := lastAt_spec l s l.length (Nat.le_refl _)
  constructor
  · intro hs
    rcases Nat.lt_or_ge i (cntV l s) with h3 | h3
    · exact h3
    · exact absurd hs (h1 i h h3 h)
  · intro hi
    have hle := cntV_le l s
    obtain ⟨m, hm⟩ : ∃ m, cntV l s = m + 1 := ⟨cntV l s - 1, by omega⟩
    have hms := h2 m (by omega) hm
    rcases Nat.lt_or_ge i m with h3 | h3
    · have := okV_mono hk h3 (by omega)
      omega
    · obtain rfl : i = m := by omega
      exact hms
end Go.Proofs.Yticngbgjfdcnhaa
