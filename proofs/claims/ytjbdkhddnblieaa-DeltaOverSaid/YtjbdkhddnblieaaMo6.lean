/-
  TEXTS OF ONE PROOF, merged: Range, Bri, Rnh, Dmj, Dmk, Ints, DltF, DltJ, DltK.
-/
import Derived.BigFrameIn
import Derived.DeepKeys5
import Derived.LoopIn
import Derived.LoopNIn
import Derived.Maps.Ext
import Derived.Maps.OwnIn
import Derived.Maps.RangeWalk
import Derived.OrdersIn
import Derived.OwnWalkIn
import Derived.RangeFuncBound
import Derived.RangeFuncCalls
import Derived.RangeFuncLeaves
import Derived.RangeFuncNested
import Derived.RangeFuncStops
import Derived.Sort.KeysCollected
import Derived.Sort.MapsRangeIn
import Derived.TacticsIn
import Derived.TacticsInMore
import Derived.Test.YtjbdkhddnblieaaMo5
namespace Go.Proofs.Ytjbdkhddnblieaa
open Go.RowKit
theorem calls_of_wp_marks {P : Program} {f : FuncId} {fn : Func} {c : Code} {args : Array Value} {w : World} {R : Ending → World → Prop} (hf : P.funcs[f]? = some fn) (hb : fn.body = some c)
    (h : c.wp P (bodyPostM Fence.wide 3 P fn R) { tmps := args ++ Array.replicate (fn.ntmps - args.size) undef, defers := [] } w) : Calls P f args w R :=
  (callsIn_wide (n := 3)).1 (callsIn_of_wp_marks hf hb trivial (wpIn_wide.2 h) rfl)
end Go.Proofs.Ytjbdkhddnblieaa
namespace Go.Proofs.Ytjbdkhddnblieaa
open Go.RowKit
section
variable {P : Program} {Q : Exit → Act → World → Prop}
theorem wp_opIn {o : Oper} {l n : Nat} {a : Act} {w : World} {K K' : Act → World → Prop} (hd : ∀ c, o.op ≠ .defer c) (hK : ∀ a w, K a w → K' a w) (h : o.wp P a w K Q) : o.wpIn (Fence.wide.inRound l) n P a w K' Q := by
  replace h := Oper.wp_mono hK h
  unfold Oper.wp at h
  unfold Oper.wpIn
  refine ⟨fun _ _ => trivial, ?_⟩
  rw [show (Fence.wide.inRound l).round = some l from rfl, Oper.semAt_some l _ _ hd]
  generalize (execOp a.eval o).run P w = r at *
  cases r with
  | ok x w' =>
    cases x <;> simp only [Oper.upon, Oper.uponIn] at h ⊢ <;> first
      | exact h
      | exact h.elim
      | exact ⟨(fun h => by cases h), CallsIn.inRound l ((callsIn_wide (n := n - 1)).2 h)⟩
      | exact ⟨(fun h => by cases h), fun c cs _ => let ⟨v, w', r, s⟩ := h c cs; ⟨v, w', r, stepsIn_wide.2 s⟩⟩
  | halt x w' => cases x <;> simp only [Oper.upon, Oper.uponIn] at h ⊢ <;> first | exact h | exact h.elim
end
end Go.Proofs.Ytjbdkhddnblieaa
namespace Go.Proofs.Ytjbdkhddnblieaa
open Go.RowKit
theorem wp_rangeFuncH {P : Program} {α : Type} {g : Operand} {ps : Array Tmp} {assign body : Code} {Q : Exit → Act → World → Prop} {a : Act} {w : World}
    {gf : Nat} {lb : Array Value} (hg : a.eval g = .func (.func gf) #[] lb) (eg : ∀ args w, (callFunc gf args).run P w = .ok (.enter gf args) w)
    {encs : α → Array Value} {Kp : World → World → Prop} {S Sp : List α → Prop} {N : Nat} {w0 : World} (hseq : SeqStopsK Fence.wide 2 P gf lb encs Kp S Sp N w0)
    (hKt : ∀ {A B C : World}, Kp A B → Kp B C → Kp A C) (hKb : ∀ (W : World) (l : Nat) (o o' : Obj), w.heap.size ≤ l → W.heap[l]? = some o → o.isCells = false → o.isWalk = false → Kp W (W.putObj l o')) (hb0 : Below w0.heap.size w0 w) (hps : ∀ x, (encs x).size = ps.size)
    (I : List α → World → Prop) (Ix : Code → List α → World → Prop) (hI : OwnFrom w.heap.size I) (hIx : ∀ c, OwnFrom w.heap.size (Ix c)) (h0 : I [] w) (Ax : α → Act → World → Prop) (hAx : ∀ x a', OwnFrom w.heap.size (fun (_ : Unit) W => Ax x a' W))
    (hassign : ∀ (l : Nat) (pre : List α) (x : α) (W : World) (K : Act → World → Prop), I pre W → (∀ a' W', KeepsFrom w.heap.size W W' → Kp W W' → I pre W' → Ax x a' W' → K a' W') →
      assign.wpIn (Fence.wide.inRound l) 1 P (Exit.then K (fun _ _ _ => False)) { tmps := (ps.zip (encs x)).foldl (fun t (p, v) => t.setIfInBounds p v) a.tmps, defers := [] } W)
    (hbody : ∀ (l : Nat) (pre : List α) (x : α) (a' : Act) (W : World), I pre W → Ax x a' W → pre.length < N → body.wpIn (Fence.wide.inRound l) 1 P (ownPostG w.heap.size Kp I Ix (pre ++ [x]) W) a' W)
    (hdone : ∀ (D : Nat) (xs : List α) (W : World), w.heap.size ≤ D → S xs → I xs W → W.heap[D]? = some (.deferred (some [])) → Q .normal { a with defers := { target := .collected D, args := #[] } :: a.defers } W)
    (hstop : ∀ (D : Nat) (c : Code) (pre : List α) (W : World), w.heap.size ≤ D → Sp pre → Ix c pre W → W.heap[D]? = some (.deferred (some [])) → c.wp P Q { a with defers := { target := .collected D, args := #[] } :: a.defers } W) :
    (Code.rangeFunc g ps assign body).wp P Q a w :=
  (wpIn_wide (n := 3)).1 (wpIn_rangeFunc_ownH rfl (by omega) hg trivial eg hseq hKt hKb hb0 hps I Ix hI hIx h0 Ax hAx hassign (fun l pre x a' W _ _ h1 h2 h3 => hbody l pre x a' W h1 h2 h3) hdone fun D c pre W h1 h2 h3 h4 => wpIn_wide.2 (hstop D c pre W h1 h2 h3 h4))
theorem boxN_own {β : Type} {N b : Nat} {t : TypeId} {vs : List Value} : OwnFrom N (fun (_ : β) W => BoxN W b t vs) := fun _ X _ _ hs hg hr =>
  hs.other hg fun e => by
    obtain ⟨_, o, ho, hc⟩ := hr _ e
    rw [show X.heap[b]? = _ from hs] at ho
    cases ho
    cases hc
theorem below_ownN {β : Type} {n₀ N : Nat} {w₀ : World} (h1 : n₀ ≤ w₀.heap.size) (h2 : n₀ ≤ N) : OwnFrom N (fun (_ : β) W => Below n₀ w₀ W) := fun _ _ _ _ hs hg hr =>
  hs.grown hg (Nat.le_trans h1 hs.size) fun k e => Nat.le_trans h2 (hr k e).1
section
variable {P : Program} {t : TypeId} {ops : Array Oper} {rest : List Oper} {o : Oper} {a : Act} {Q : Exit → Act → World → Prop} {w : World} {l n : Nat}
theorem inR_boxNew {vs : List Value} (hz : (P.info? t).bind (·.zero) = some (.agg vs.toArray)) (ho : o.op = .alloc t) (hgd : Region.wanted o (yielded ops a.tmps) = true) (h : ∀ w', Below w.heap.size w w' → BoxN w' w.heap.size t vs → wpListIn (Fence.wide.inRound l) n P ops Q rest (a.put o.dst (.pointer (some ⟨w.heap.size, 0, none⟩))) w') : wpListIn (Fence.wide.inRound l) n P ops Q (o :: rest) a w :=
  BigFrame.wpListIn_want hgd fun K hK => wp_opIn (K := K) (by rw [ho]; intro c h; cases h) (fun _ _ h => h) (wp_boxNew hz ho fun w' h1 h2 => hK _ _ (h w' h1 h2))
theorem inR_boxStore {vs us : List Value} {x y : Operand} {b : Nat} (hs : (P.info? t).map (·.size) = some us.length) (ho : o.op = .store t x y) (hd : o.dst = none) (hgd : Region.wanted o (yielded ops a.tmps) = true) (hx : a.eval x = .pointer (some ⟨b, 0, none⟩)) (hy : a.eval y = .agg us.toArray) (h1 : us.all (·.oneCell') = true) (hb : BoxN w b t vs) (hl : vs.length = us.length)
    (h : ∀ w', w.grownBy w' (some b) → BoxN w' b t us → wpListIn (Fence.wide.inRound l) n P ops Q rest a w') : wpListIn (Fence.wide.inRound l) n P ops Q (o :: rest) a w :=
  BigFrame.wpListIn_want hgd fun K hK => wp_opIn (K := K) (by rw [ho]; intro c h; cases h) (fun _ _ h => h) (wp_boxStore hs ho hx hy h1 hb hl fun w' h3 h4 => hK _ _ (by rw [hd]; exact h w' h3 h4))
theorem inR_boxSet {t2 : TypeId} {vs : List Value} {x y : Operand} {b j : Nat} {u : Value} (ho : o.op = .store t2 x y) (hd : o.dst = none) (hgd : Region.wanted o (yielded ops a.tmps) = true) (hs : (P.info? t2).map (·.size) = some 1) (hx : a.eval x = .pointer (some ⟨b, j, none⟩)) (hy : a.eval y = u) (hu : u.cells = #[u]) (h1 : u.oneCell' = true) (hb : BoxN w b t vs) (hj : j < vs.length)
    (h : ∀ w', w.grownBy w' (some b) → BoxN w' b t (vs.set j u) → wpListIn (Fence.wide.inRound l) n P ops Q rest a w') : wpListIn (Fence.wide.inRound l) n P ops Q (o :: rest) a w :=
  BigFrame.wpListIn_want hgd fun K hK => wp_opIn (K := K) (by rw [ho]; intro c h; cases h) (fun _ _ h => h) (wp_boxSet ho hs hx hy hu h1 hb hj fun w' h3 h4 => hK _ _ (by rw [hd]; exact h w' h3 h4))
end
end Go.Proofs.Ytjbdkhddnblieaa
namespace Go.Proofs.Ytjbdkhddnblieaa
open Go.RowKit Go.Shelf Go.Maps
def klP (p : Plc) : Lit := .string (keyBytes [.int .i64 p.table, .string p.key])
def valP (p : Plc) : Value := .agg #[.int .i64 p.table, .string (strOf p.key)]
theorem valP_inj {p q : Plc} (h : valP p = valP q) : p = q := by
  unfold valP at h
  injection h with h
  have h1 : (Value.int .i64 p.table) = .int .i64 q.table := by
    have := congrArg (fun a : Array Value => a[0]?) h
    simpa using this
  have h2 : (Value.string (strOf p.key)) = .string (strOf q.key) := by
    have := congrArg (fun a : Array Value => a[1]?) h
    simpa using this
  injection h1 with _ h1
  injection h2 with h2
  have h3 : p.key = q.key := by rw [← show (strOf p.key).toList = p.key by simp [strOf], h2]; simp [strOf]
  cases p; cases q; simp_all
def wfP (p : Plc) : Prop := W64 p.table ∧ p.key.length ≤ maxLen
theorem keyP_law : WideMaps.KeyLaw Try.prog 62 := deep_law_laid (by kernel_rfl) (m := 2) (by omega) (of_decide_eq_true (by kernel_rfl)) (by kernel_rfl) (by kernel_rfl)
theorem keyedP : Keyed Try.prog 62 := Keyed.of_law keyP_law
theorem cellsP : Try.prog.cellsOf 62 = 2 := by kernel_rfl
theorem cellsI : Try.prog.cellsOf 3 = 1 := by kernel_rfl
theorem cellsS : Try.prog.cellsOf 9 = 1 := by kernel_rfl
theorem wf_W64 {n : Int} (h : W64 n) : (Lit.int .i64 n).wf = true := by
  unfold W64 at h
  simp [Lit.wf, IntKind.min, IntKind.max, IntKind.signed, IntKind.bits]
  omega
theorem typesS : ∃ m, Try.prog.types.size = m + 1 := ⟨Try.prog.types.size - 1, by have : 0 < Try.prog.types.size := of_decide_eq_true (by kernel_rfl); omega⟩
theorem keyOf_plc {p : Plc} (h : wfP p) : keyOf Try.prog 62 (valP p) = some (klP p) := by
  have hkt : Try.prog.keyType 62 = true := by kernel_rfl
  obtain ⟨m, hm⟩ := typesS
  have hw := wf_W64 h.1
  have hk : (ByteArray.mk p.key.toArray).size ≤ maxLen := by rw [show (ByteArray.mk p.key.toArray).size = p.key.length from rfl]; exact h.2
  unfold keyOf
  simp only [Try.underlying62]
  rw [if_pos (by simp [hkt, valP, Value.formed, Try.underlying62, cellsP]), hm]
  unfold Program.keyLits
  simp only [Try.underlying62, valP, Value.cells]
  rw [if_pos (by simp [cellsP])]
  simp [Program.keyLits, cellsI, cellsS, Try.underlying3, Try.underlying9, hw, hk, klP, strOf]
set_option maxRecDepth 10000 in
theorem plc_of_key {v : Value} {l : Lit} (h : keyOf Try.prog 62 v = some l) : ∃ p, v = valP p ∧ l = klP p ∧ wfP p := by
  obtain ⟨m, hm⟩ := typesS
  unfold keyOf at h
  simp only [Try.underlying62] at h
  split at h
  · rename_i hf
    rw [hm] at h
    unfold Program.keyLits at h
    simp only [Try.underlying62] at h
    split at h
    · rename_i hc
      rw [Bool.and_eq_true] at hf
      obtain ⟨xs, rfl⟩ : ∃ xs, v = .agg xs := by
        cases v <;> simp [Value.formed, Try.underlying62] at hf
        exact ⟨_, rfl⟩
      have hl := hc.1
      rw [cellsP] at hl
      obtain ⟨xl⟩ := xs
      match xl, hl with
      | [c0, c1], _ =>
        simp only [Value.cells, Option.map_eq_some_iff] at h
        obtain ⟨ls, ⟨lls, h2, rfl⟩, rfl⟩ := h
        simp [Program.keyLits, cellsI, cellsS, Try.underlying3, Try.underlying9] at h2
        cases c0 <;> simp at h2
        rename_i a k n
        split at h2
        · rename_i ha
          obtain ⟨rfl, hw⟩ := ha
          cases c1 <;> simp at h2
          rename_i s
          split at h2
          · rename_i hs
            simp at h2
            subst h2
            refine ⟨⟨k, s.data.toList⟩, by simp [valP, strOf], by simp [klP], ?_, hs⟩
            simp [Lit.wf, IntKind.min, IntKind.max, IntKind.signed, IntKind.bits] at hw
            show W64 k
            unfold W64
            omega
          · simp at h2
        · simp at h2
    · cases h
  · cases h
theorem klP_inj {p q : Plc} (hp : wfP p) (hq : wfP q) (h : klP p = klP q) : p = q := valP_inj (keyP_law.inj (keyOf_plc hp) (h ▸ keyOf_plc hq))
end Go.Proofs.Ytjbdkhddnblieaa
namespace Go.Proofs.Ytjbdkhddnblieaa
open Go.RowKit Go.Shelf Go.Maps
attribute [local go_sem] Oper.semAt_some
def CollP {H : Type} (D0 : DataW H) (left : Lit → Bool) (ps : List Plc) : Prop := ps.Nodup ∧ (∀ p ∈ ps, wfP p) ∧ ∀ p, wfP p → (p ∈ ps ↔ (has D0 (klP p) = true ∧ left (klP p) = false))
def PlcOf {H : Type} (D0 : DataW H) (ps : List Plc) : Prop := ps.Nodup ∧ (∀ p ∈ ps, wfP p) ∧ (∀ p, wfP p → (p ∈ ps ↔ has D0 (klP p) = true)) ∧ ps.length ≤ Maps.size D0
theorem CollP.start {H : Type} (D0 : DataW H) : CollP D0 (has D0) [] := ⟨List.nodup_nil, ⟨(fun _ h => nomatch h), fun x _ => by cases has D0 (klP x) <;> simp⟩⟩
theorem CollP.step {H : Type} {D0 : DataW H} {left : Lit → Bool} {ps : List Plc} (h : CollP D0 left ps) {x : Plc} {y : DataW H} (hx : wfP x) (hlk : left (klP x) = true) (hat : ∀ zd, D0.atKey (klP x) zd = y) : CollP D0 (fun z => left z && !z.sameKey (klP x)) (ps ++ [x]) := by
  have hhas : has D0 (klP x) = true := has_true_of_atKey hat
  have hnew : x ∉ ps := fun hm => by have := ((h.2.2 x hx).1 hm).2; rw [hlk] at this; cases this
  refine ⟨List.nodup_append.2 ⟨h.1, by simp, fun a ha b hb => by simp at hb; subst hb; exact fun e => hnew (e ▸ ha)⟩, fun p hp => ?_, fun y hy => ?_⟩
  · rcases List.mem_append.1 hp with h1 | h1
    · exact h.2.1 p h1
    · simp at h1; exact h1 ▸ hx
  · by_cases e : y = x
    · subst e
      have hs : (klP y).sameKey (klP y) = true := by simp [klP, Lit.sameKey]
      simp [hhas, hs]
    · have hne : (klP y).sameKey (klP x) = false := sameKey_ne fun h1 => e (klP_inj hy hx h1)
      simp [h.2.2 y hy, e, hne]
theorem CollP.all {H : Type} {D0 : DataW H} {left : Lit → Bool} {ps : List Plc} (h : CollP D0 left ps) (hl : ∀ kl, left kl = false) (hs : ps.length ≤ Maps.size D0) : PlcOf D0 ps := ⟨h.1, h.2.1, fun p hp => by rw [h.2.2 p hp, hl]; simp, hs⟩
theorem grown_bel {W W' : World} (h : Below W.heap.size W W') : W.grownBy W' none := ⟨h.os, h.tape, h.output, h.size, fun k hk _ => h.block k hk⟩
section
variable {P : Program} {t : TypeId} {ops : Array Oper} {rest : List Oper} {o : Oper} {a : Act} {Q : Exit → Act → World → Prop} {w : World} {n : Nat}
theorem wp_opF {K K' : Act → World → Prop} (hd : ∀ c, o.op ≠ .defer c) (hK : ∀ a w, K a w → K' a w) (h : o.wp P a w K Q) : o.wpIn Fence.wide n P a w K' Q := by
  replace h := Oper.wp_mono hK h
  unfold Oper.wp at h
  unfold Oper.wpIn
  refine ⟨fun _ _ => trivial, ?_⟩
  rw [Oper.semAt_plain Fence.wide _ _ hd]
  generalize (execOp a.eval o).run P w = r at *
  cases r with
  | ok x w' =>
    cases x <;> simp only [Oper.upon, Oper.uponIn] at h ⊢ <;> first
      | exact h
      | exact h.elim
      | exact ⟨(fun h => by cases h), callsIn_wide.2 h⟩
      | exact ⟨(fun h => by cases h), fun c cs _ => let ⟨v, w', r, s⟩ := h c cs; ⟨v, w', r, stepsIn_wide.2 s⟩⟩
  | halt x w' => cases x <;> simp only [Oper.upon, Oper.uponIn] at h ⊢ <;> first | exact h | exact h.elim
theorem inF_boxNew {vs : List Value} (hz : (P.info? t).bind (·.zero) = some (.agg vs.toArray)) (ho : o.op = .alloc t) (hgd : Region.wanted o (yielded ops a.tmps) = true) (h : ∀ w', Below w.heap.size w w' → BoxN w' w.heap.size t vs → wpListIn Fence.wide n P ops Q rest (a.put o.dst (.pointer (some ⟨w.heap.size, 0, none⟩))) w') : wpListIn Fence.wide n P ops Q (o :: rest) a w :=
  BigFrame.wpListIn_want hgd fun K hK => wp_opF (K := K) (by rw [ho]; intro c h; cases h) (fun _ _ h => h) (wp_boxNew hz ho fun w' h1 h2 => hK _ _ (h w' h1 h2))
theorem inF_boxStore {vs us : List Value} {x y : Operand} {b : Nat} (hs : (P.info? t).map (·.size) = some us.length) (ho : o.op = .store t x y) (hd : o.dst = none) (hgd : Region.wanted o (yielded ops a.tmps) = true) (hx : a.eval x = .pointer (some ⟨b, 0, none⟩)) (hy : a.eval y = .agg us.toArray) (h1 : us.all (·.oneCell') = true) (hb : BoxN w b t vs) (hl : vs.length = us.length)
    (h : ∀ w', w.grownBy w' (some b) → BoxN w' b t us → wpListIn Fence.wide n P ops Q rest a w') : wpListIn Fence.wide n P ops Q (o :: rest) a w :=
  BigFrame.wpListIn_want hgd fun K hK => wp_opF (K := K) (by rw [ho]; intro c h; cases h) (fun _ _ h => h) (wp_boxStore hs ho hx hy h1 hb hl fun w' h3 h4 => hK _ _ (by rw [hd]; exact h w' h3 h4))
end
set_option maxRecDepth 100000 in
set_option maxHeartbeats 1000000 in
theorem keys1P_in {H : Type} (l Bm b nn : Nat) (D0 : DataW H) {R : Value → Option (DataW H × List MemPlace)} (J Jx : List Plc → World → Prop)
    (hY : ∀ pre x W, J pre W → pre.length < Maps.size D0 → YieldAt Fence.wide 1 Try.prog l #[valP x] W fun e W' =>
      (e = .returned (.bool true) ∧ J (pre ++ [x]) W' ∧ KeepsWalks W W') ∨ (e = .returned (.bool false) ∧ Jx (pre ++ [x]) W'))
    (W : World) (hJ : AbidesFrom W.heap.size J) (hm : W.cell? ⟨Bm, 0, none⟩ = some (.map (some b))) (hown : W.ownsMap Try.prog 62 R b nn D0) (h0 : J [] W) :
    CallsIn Fence.wide 2 Try.prog 53 #[.func (.yield l) #[] #[], .pointer (some ⟨Bm, 0, none⟩)] W fun e W' => (∃ v, e = .returned v) ∧
      ((∃ ps : List Plc, PlcOf D0 ps ∧ J ps W') ∨ (∃ pre : List Plc, True ∧ Jx pre W')) := by
  refine callsIn_of_wp Try.func53 rfl trivial ?_ rfl
  simp only [Try.ntmps53, List.size_toArray, List.length_cons, List.length_nil, Nat.reduceAdd, Nat.reduceSub, Array.replicate_succ, Array.replicate_zero, List.push_toArray, List.append_toArray, List.nil_append, List.cons_append]
  gi_wp2_with (first
    | (gi_at_range; refine wpListIn_range_own _ rfl _ 67 rfl 62 3 keyedP Try.underlying67 _ b nn _ rfl hown ?_; intro w0 hrg0 hg0 hs0)
    | gi_in)
  go_frame
  gi_loopw [3] (fun _ wr => ∃ (left : Lit → Bool) (cnt : Nat) (ps : List Plc), wr.ranges Try.prog 62 R b W.heap.size nn D0 left cnt ∧ ps.length + cnt ≤ Maps.size D0 ∧ CollP D0 left ps ∧ J ps wr)
    (fun _ wr => wr.rangeLeft b W.heap.size)
  case atStart =>
    exact ⟨_, _, [], hrg0, by simp, CollP.start D0, hJ [] W w0 none h0 hg0 (fun r e => by cases e)⟩
  case round =>
    obtain ⟨left, cnt, ps, hrg, hcs, hC, hJs⟩ := hrel
    gi_wp2_with (first
      | (gi_at_next; refine wpListIn_next_ranges _ rfl _ rfl 62 keyedP R valP id (fun key kl hk => by obtain ⟨x, hx, _⟩ := plc_of_key hk; exact ⟨x, hx⟩) (fun v _ _ => ⟨v, rfl⟩) b W.heap.size nn _ _ _ rfl hrg ?_ ?_)
      | gi_in)
    · intro hc0 hl0
      gi_wp2
      go_end0
      exact ⟨⟨_, rfl⟩, .inl ⟨ps, hC.all hl0 (by omega), hJs⟩⟩
    · intro x c kl yd yp w2 cnt2 hkey hlk hv hat hrg2 hlt hg2 hs2 hen
      obtain ⟨x', ex, rfl, hxw⟩ := plc_of_key hkey
      obtain rfl : x = x' := valP_inj ex
      have hJ2 : J ps w2 := hJ ps wr w2 (some W.heap.size) hJs hg2 (fun r e => by cases e; exact ⟨Nat.le_refl _, hrg.iter_walk⟩)
      clear hs2
      gi_wp2_with (first
        | (refine inF_boxNew (vs := [.int .i64 0, .string (strOf [])]) (by kernel_rfl) rfl rfl ?_; intro w3 hb3 hB3)
        | (refine inF_boxStore (us := [.int .i64 x.table, .string (strOf x.key)]) (by kernel_rfl) rfl rfl rfl rfl rfl rfl hB3 rfl ?_; intro w4 hg4 hB4; have d0 := hB4.cell (i := 0) rfl; have d1 := hB4.cell (i := 1) rfl; have hg24 := World.grownBy.andThen (grown_bel hb3) hg4 (fun j e => .inl (by cases e; exact Nat.le_refl _)); have hJ4 : J ps w4 := hJ ps w2 w4 none hJ2 hg24 (fun r e => by cases e); obtain ⟨fn, tmps, assign, body, hy, hR⟩ : YieldAt Fence.wide 1 Try.prog l #[.agg #[.int .i64 x.table, .string (strOf x.key)]] w4 _ := hY ps x w4 hJ4 (by omega))
        | gi_in)
      refine hR.mono ?_
      have hrg4 := hrg2.kept hg24 (by simp) (by simp)
      have hC2 := hC.step hxw hlk hat
      clear hR
      rintro e w5 (⟨rfl, hJ5, hk5⟩ | ⟨rfl, hJx5⟩)
      · gi_wp2
        have hrg5 := hrg4.of_walks hk5
        go_roundw
        case rel => exact ⟨_, cnt2, ps ++ [x], hrg5, by simp; omega, hC2, hJ5⟩
        case measure => rw [hrg5.left_eq, hrg.left_eq]; exact hlt
      · gi_wp2
        refine bodyPost_ret (results_none rfl _ _ _) rfl ?_
        exact ⟨⟨_, rfl⟩, .inr ⟨ps ++ [x], trivial, hJx5⟩⟩
end Go.Proofs.Ytjbdkhddnblieaa
namespace Go.Proofs.Ytjbdkhddnblieaa
open Go.RowKit
theorem rows_apart {E1 E2 : TypeId} (hne : E1 ≠ E2) {w : World} {b1 b2 s1 s2 n1 n2 : Nat} {v1 v2 : Value} {xs1 xs2 : List Value} (h1 : w.ownsRow b1 E1 s1 v1 n1 xs1) (h2 : w.ownsRow b2 E2 s2 v2 n2 xs2) : v1.ownBlock = none ∨ v1.ownBlock ≠ v2.ownBlock := by
  rcases h1.2 with ⟨rfl, _⟩ | ⟨g, cap, cur, rfl, _, hg, _⟩
  · exact .inl rfl
  · right
    intro e
    rcases h2.2 with ⟨rfl, _⟩ | ⟨g2, cap2, cur2, rfl, _, hg2, _⟩
    · simp [Value.ownBlock] at e
    · obtain rfl : g = g2 := by simpa [Value.ownBlock] using e
      rw [hg] at hg2
      injection hg2 with h
      injection h with _ h
      exact hne h
end Go.Proofs.Ytjbdkhddnblieaa
namespace Go.Proofs.Ytjbdkhddnblieaa
open Go.RowKit Go.Shelf
theorem boxes3 (w : World) (t t2 t3 : TypeId) (us vs ys : List Value) : ∃ W, W = ((w.alloc (.cells us.toArray t)).alloc (.cells vs.toArray t2)).alloc (.cells ys.toArray t3) ∧ Below w.heap.size w W ∧ BoxN W w.heap.size t us ∧ BoxN W (w.heap.size + 1) t2 vs ∧ BoxN W (w.heap.size + 1 + 1) t3 ys ∧ W.heap.size = w.heap.size + 1 + 1 + 1 := by
  obtain ⟨w1, h1, q1, b1, b2, s1⟩ := boxes2 w t t2 us vs
  rw [← h1]
  have h3 : Below w1.heap.size w1 (w1.alloc (.cells ys.toArray t3)) := (Below.refl _ _).alloc (Nat.le_refl _) _
  have s3 : (w1.alloc (.cells ys.toArray t3)).heap.size = w1.heap.size + 1 := World.size_alloc _ _
  have b3 := BoxN.new w1 t3 ys
  rw [s1] at b3 s3
  exact ⟨_, rfl, q1.trans (h3.mono q1.size), b1.below h3 (by omega), b2.below h3 (by omega), b3, s3⟩
theorem OwnL.apart2 {α β : Type} {E : Elt α} {F : Elt β} {Te Tf : TypeId} (hne : Te ≠ Tf) {b1 l1 b2 l2 : Nat} {w : World} {v1 v2 : Value} {xs : List α} {ys : List β} (h1 : OwnL E Te b1 l1 w v1 xs) (h2 : OwnL F Tf b2 l2 w v2 ys) : v1.ownBlock = none ∨ v1.ownBlock ≠ v2.ownBlock := by
  obtain ⟨_, h1, _⟩ := h1
  obtain ⟨_, h2, _⟩ := h2
  exact rows_apart hne h1 h2
def DlEnd (w : World) (r : Dl × Nat) (e : Ending) (w' : World) : Prop := ∃ v', e = .returned (.tuple #[v', .int .i64 (r.2 : Nat)]) ∧ RdDl (fun k => w.heap.size ≤ k ∧ k < w'.heap.size) w' v' r.1 ∧ Below w.heap.size w w'
set_option maxRecDepth 100000 in
set_option maxHeartbeats 8000000 in
theorem dPut_any (w : World) {S S2 : Nat → Prop} {v u : Value} {d : Dl} {x : Wr} (h : RdDl S w v d) (hs : smD d) (hx : RdWr S2 w u x) (hx1 : x.key.length ≤ 1000000) (hx2 : x.val.length ≤ 1000000) :
    Calls Try.prog 10 #[v, u] w (DlEnd w (putD d x)) := by
  have hd := h
  obtain ⟨a, c, a2, c2, rfl, hw, hm⟩ := h
  have hx0 := hx
  obtain ⟨KA, KC, VA, VC, rfl, hk, hv, ht⟩ := hx
  obtain ⟨W0, hW, q, bn, bx, bz, hsz⟩ := boxes3 w 25 28 25 [.slice a d.writes.length c, .slice a2 d.marks.length c2] [.int .i64 x.table, .slice KA x.key.length KC, .bool x.gone, .slice VA x.val.length VC] [.slice none 0 0, .slice none 0 0]
  have eA : ∀ args w, (callFunc 31 args).run Try.prog w = .ok (.enter 31 args) w := enters_of Try.func31 (by kernel_rfl) rfl
  have hs1 := hs.1
  go_enter Try.func10, Try.ntmps10
  go_upto_region 1 with (fail)
  rw [show ((w.alloc (.cells #[.slice a d.writes.length c, .slice a2 d.marks.length c2] 25)).alloc (.cells #[.int .i64 x.table, .slice KA x.key.length KC, .bool x.gone, .slice VA x.val.length VC] 28)).alloc (.cells #[.slice none 0 0, .slice none 0 0] 25) = W0 from hW.symm]
  clear hW
  have b0 := bn.cell (i := 0) rfl
  have b1 := bn.cell (i := 1) rfl
  go_wp2_with fail
  refine (dCopied_any W0 (hd.below q) hs).mono ?_
  rintro e w1 ⟨_, rfl, ⟨wa, wc, ma, mc, M, hM0, hM1, rfl, hOw, hOm, hMm⟩, hb1⟩
  have q1 := q.trans (hb1.mono q.size)
  have z1 := hb1.size
  have hOw0 := hOw.block_lt
  have hOm0 := hOm.block_lt
  replace hOw := hOw.but (b := w1.heap.size) (fun k _ hk => by omega)
  replace bn := bn.below hb1 bn.lt
  replace bx := bx.below hb1 bx.lt
  replace bz := bz.below hb1 bz.lt
  clear b0 b1
  go_upto_region 2 with (first | (refine wpList_boxNew (vs := [.slice none 0 0, .slice none 0 0]) (by kernel_rfl) rfl rfl ?_; intro w2 hb2 hB2) | (refine wpList_boxStore (us := [.slice wa d.writes.length wc, .slice ma d.marks.length mc]) (by kernel_rfl) rfl rfl rfl rfl rfl rfl hB2 rfl ?_; intro w3 hg3 hBO) | fail)
  go_simp
  have qb3 : Below w1.heap.size w1 w3 := hb2.grown hg3 hb2.size fun k hk => by injection hk with hk; omega
  have zO := hBO.lt
  replace q := q1.trans (qb3.mono q1.size)
  replace bn := bn.below qb3 bn.lt
  replace bx := bx.below qb3 bx.lt
  have hBZ := bz.below qb3 bz.lt
  replace hOw := hOw.below qb3
  replace hOm := hOm.below qb3
  obtain ⟨BO, eBO⟩ : ∃ BO, BO = w1.heap.size := ⟨_, rfl⟩
  rw [← eBO] at hBO zO hOw0 hOm0 hOw hM1
  rw [← eBO]
  have zBO : W0.heap.size ≤ BO := by omega
  clear hb2 hB2 hg3 qb3 q1 eBO bz hb1 z1
  have b0 := bn.cell (i := 0) rfl
  have b1 := bn.cell (i := 1) rfl
  go_wp2_with fail
  refine (dCheck_any w3 (hd.below q)).mono ?_
  rintro e w4 ⟨rfl, hb4⟩
  replace q := q.trans (hb4.mono q.size)
  replace bn := bn.below hb4 bn.lt
  replace bx := bx.below hb4 bx.lt
  replace hBO := hBO.below hb4 hBO.lt
  replace hBZ := hBZ.below hb4 hBZ.lt
  replace hOw := hOw.below hb4
  replace hOm := hOm.below hb4
  clear b0 b1
  by_cases hok : okD d
  · have dok : decide (okD d) = true := decide_eq_true hok
    have b0 := bx.cell (i := 0) rfl
    have b1 := bx.cell (i := 1) rfl
    have b2 := bx.cell (i := 2) rfl
    have b3 := bx.cell (i := 3) rfl
    have z4 := hb4.size
    clear hb4
    go_wp2_with fail
    refine (wrong_any w4 (hx0.below q)).mono ?_
    rintro e w5 ⟨rfl, hb5⟩
    replace q := q.trans (hb5.mono q.size)
    replace bn := bn.below hb5 bn.lt
    replace bx := bx.below hb5 bx.lt
    replace hBO := hBO.below hb5 hBO.lt
    replace hBZ := hBZ.below hb5 hBZ.lt
    replace hOw := hOw.below hb5
    replace hOm := hOm.below hb5
    have z5 := hb5.size
    clear b0 b1 b2 b3 hb5
    by_cases hmay : mayW x
    · have dm : decide (mayW x) = true := decide_eq_true hmay
      have b0 := bn.cell (i := 0) rfl
      by_cases hfull : d.writes.length = 20
      · have d20 : ((d.writes.length : Int) == 20) = true := beq_iff_eq.2 (by omega)
        have HK := Lib.hid (show putD d x = (d, 80) by unfold putD; rw [if_pos ⟨hok, hmay⟩, if_pos hfull])
        clear hfull
        have o0 := hBO.cell (i := 0) rfl
        have o1 := hBO.cell (i := 1) rfl
        go_wp2_with (first | (refine wpList_boxStore (us := [.slice wa d.writes.length wc, .slice ma d.marks.length mc]) (by kernel_rfl) rfl rfl rfl rfl rfl rfl hBZ rfl ?_; intro wd hgd hBd) | fail)
        have d0 := hBd.cell (i := 0) rfl
        have d1 := hBd.cell (i := 1) rfl
        obtain ⟨fs, hu, _⟩ := dlS.hu
        refine bodyPost_ret (v := .tuple #[.agg #[.slice wa d.writes.length wc, .slice ma d.marks.length mc], .int .i64 80]) (by simp [results, Try.results10, go_sem, loadVar, isAgg, run_underlying hu, run_sizeOf' dlS.hs, loadCellsFrom, Addr.add, d0, d1]) rfl ?_
        rw [DlEnd, HK.out]
        exact ⟨_, rfl, ⟨wa, wc, ma, mc, rfl, (hOw.unbut.other hgd (by omega) (by omega)).rdS fun k hk hl => ⟨by omega, hl⟩, (hOm.other hgd (by omega) (by omega)).rdS fun k hk hl => ⟨by omega, hl⟩⟩, q.grown hgd q.size fun k e => by injection e with e; omega⟩
      · have d20 : ((d.writes.length : Int) == 20) = false := beq_eq_false_iff_ne.2 (by omega)
        have HK := Lib.hid (show putD d x = (⟨d.writes ++ [x], d.marks⟩, 0) by unfold putD; rw [if_pos ⟨hok, hmay⟩, if_neg hfull])
        go_upto_region 6 with (fail)
        clear b0
        have hrW : ∀ k, Value.ownBlock (.slice wa d.writes.length wc) = some k → k < w5.heap.size := fun k hk => by have := hOw0 k hk; omega
        have hlo : M ≤ w5.heap.size := by omega
        have hxr : some (w.heap.size + 1) ≠ Value.ownBlock (.slice wa d.writes.length wc) := fun e => by have := hOw0 _ e.symm; omega
        have hxb : w.heap.size + 1 ≠ BO := by omega
        have hbr : Value.ownBlock (.slice wa d.writes.length wc) ≠ some BO := fun e => by have := hOw0 _ e; omega
        refine wp_region_lnl (K := fun A B => Twb A B (Value.ownBlock (.slice wa d.writes.length wc)) (BO)) (by kernel_rfl) (by kernel_rfl) [3, 5, 7] (by kernel_rfl) [lEq (.pointer (some ⟨BO, 0 + 0, none⟩)), lEq (.slice wa d.writes.length wc), lEq (.agg #[.int .i64 x.table, .slice KA x.key.length KC, .bool x.gone, .slice VA x.val.length VC]), lAny, pRow Elt.wr 28 (w5) (Value.ownBlock (.slice wa d.writes.length wc)) (BO) x hrW hBO.lt, lAny, lEq (.pointer (some ⟨BO, 0 + 0, none⟩)), lAny] (PshJ Elt.wr 28 (M) (M) (Value.ownBlock (.slice wa d.writes.length wc)) (BO) 25 [.slice wa d.writes.length wc, .slice ma d.marks.length mc] 0 (w5) (d.writes) x) PshJ.below (show Below (w5).heap.size (w5) (w5) from Below.refl _ _)
          ⟨?o0, ?o1, ?o2, ?o3, ?o4, ?o5, ?o6, ?o7, trivial⟩ ?fin
        case o0 =>
          refine LnOp.side rfl (by kernel_rfl) (fun A va w' k hF hT hk hJ hb hu hp hd => ?_)
          have e1 : A.eval (.tmp 6) = .pointer (some ⟨BO, 0, none⟩) := hF 6 rfl
          exact wp_fieldN dlS rfl (e1) (by omega) ⟨_, rfl, rfl, Below.refl _ _⟩
        case o1 =>
          refine LnOp.side rfl (by kernel_rfl) (fun A va w' k hF hT hk hJ hb hu hp hd => ?_)
          have e1 : A.eval (.tmp 24) = .pointer (some ⟨BO, 0 + 0, none⟩) := (hT 24 0 (by simp) rfl).trans (hd ⟨0, .data⟩ (by simp) rfl rfl)
          have hk1 : k ≤ 1 := hb 1 5 rfl (by kernel_rfl)
          have hJ0 := PshJ.early hJ (by simp only [List.length_map, List.length_take]; omega)
          exact wp_ld_slice (e := 28) rfl e1 (by kernel_rfl) ((hBO.below hJ0 hBO.lt).cell (i := 0) rfl) ⟨_, rfl, rfl, Below.refl _ _⟩
        case o2 =>
          refine LnOp.side rfl (by kernel_rfl) (fun A va w' k hF hT hk hJ hb hu hp hd => ?_)
          have e1 : A.eval (.tmp 3) = .pointer (some ⟨w.heap.size + 1, 0, none⟩) := hF 3 rfl
          have hX2 := (PshJ.two hJ).boxN bx hxr hxb
          exact wp_load4 wrS rfl e1 (hX2.cell (i := 0) rfl) (hX2.cell (i := 1) rfl) (hX2.cell (i := 2) rfl) (hX2.cell (i := 3) rfl) ⟨_, rfl, rfl, Below.refl _ _⟩
        case o3 =>
          refine LnOp.line 0 rfl rfl (fun A va w' hF hT hJ hu hd => ?_)
          have e1 : A.eval (.tmp 26) = .agg #[.int .i64 x.table, .slice KA x.key.length KC, .bool x.gone, .slice VA x.val.length VC] := (hT 26 2 (by simp) rfl).trans (hd ⟨2, .data⟩ (by simp) rfl rfl)
          have hJ0 : Below (w5).heap.size (w5) w' := hJ
          refine wp_callFn rfl eA (by simp only [List.map_toArray, List.map_cons, List.map_nil, e1]) ((dAlone_any w' (hx0.below (q.trans (hJ0.mono q.size))) hx1 hx2).mono ?_)
          rintro e w2 ⟨v2, rfl, ⟨ka, kc, va2, vc, rfl, hk2, hv2, ht2⟩, hb2⟩
          have hR : Elt.wr.R (fun k => w5.heap.size ≤ k ∧ k < w2.heap.size) w2 x (wrC x (.slice ka x.key.length kc) (.slice va2 x.val.length vc)) := ⟨_, _, rfl, hk2.weak fun k hk => ⟨Nat.le_trans hJ0.size hk.1, hk.2⟩, hv2.weak fun k hk => ⟨Nat.le_trans hJ0.size hk.1, hk.2⟩, ht2⟩
          exact ⟨_, rfl, _, rfl, ⟨hJ0.trans (hb2.mono hJ0.size), _, rfl, hR⟩, (Twb.refl (r := Value.ownBlock (.slice wa d.writes.length wc)) (b := BO)).below hb2⟩
        case o4 =>
          refine LnOp.side rfl (by kernel_rfl) (fun A va w' k hF hT hk hJ hb hu hp hd => ?_)
          have x1 : A.eval (.tmp 27) = va 3 := hT 27 3 (by simp) rfl
          obtain rfl : k = 1 := by
            have h1 := hp ⟨3, .data⟩ (by simp) rfl 0 rfl
            have h2 := hb 1 5 rfl (by kernel_rfl)
            omega
          obtain ⟨hJ0, us, eus, hR⟩ := hJ
          have hb1 : Below w'.heap.size w' (w'.alloc (.cells us.toArray 28)) := (Below.refl _ _).alloc (Nat.le_refl _) _
          exact wp_buildOne wrP rfl x1 eus (Elt.len _ hR) (by decide) (by decide) ⟨_, rfl, ⟨_, us, rfl, hJ0.size, by simp only [World.alloc, Array.getElem?_push_size], Elt.weak _ (Elt.below hR hb1) fun k hk => ⟨hk.1, Nat.lt_of_lt_of_le hk.2 hb1.size⟩⟩, hb1⟩
        case o5 =>
          refine LnOp.line 1 rfl rfl (fun A va w' hF hT hJ hu hd => ?_)
          have e1 : A.eval (.tmp 25) = .slice wa d.writes.length wc := (hT 25 1 (by simp) rfl).trans (hd ⟨1, .data⟩ (by simp) rfl rfl)
          have x2 : A.eval (.tmp 28) = va 4 := hT 28 4 (by simp) rfl
          have y2 := hd ⟨4, .data⟩ (by simp) rfl rfl
          have hJ' := hJ
          obtain ⟨hJ0, _⟩ := hJ
          obtain ⟨g, us, eg, hg0, hgc, hgR⟩ : ∃ g, ∃ us : List Value, va 4 = .slice (some ⟨g, 0, none⟩) 1 1 ∧ (w5).heap.size ≤ g ∧ w'.heap[g]? = some (.cells us.toArray 28 (0, 0)) ∧ Elt.R Elt.wr (fun k => (w5).heap.size ≤ k ∧ k < w'.heap.size) w' x us := y2
          refine wp_appendL (E := Elt.but Elt.wr (BO)) (ys := [x]) wrP rfl e1 (hOw.below hJ0) (x2.trans eg) (fun j u hj => by rw [Addr.add_lit, World.cell?, hgc]; simpa using hj) (Flat.single (Elt.weak Elt.wr hgR fun k hk => ⟨hk, fun e => by have := hk.1; have := hBO.lt; omega⟩)) (fun k hk => ⟨Nat.le_trans hlo hk.1, hk.2, fun e => by have := hrW k e.symm; omega⟩) (Nat.le_trans hlo hJ0.size) (fun ad7 k7 cap7 w2 h2 hg h3 => ?_) (by simp; omega)
          obtain rfl : k7 = (d.writes ++ [x]).length := h2.len
          exact ⟨_, rfl, PshJ.app hJ' hBO h2 hg hbr h3, (Twb.refl (b := BO)).row hg⟩
        case o6 =>
          refine LnOp.side rfl (by kernel_rfl) (fun A va w' k hF hT hk hJ hb hu hp hd => ?_)
          have e1 : A.eval (.tmp 6) = .pointer (some ⟨BO, 0, none⟩) := hF 6 rfl
          exact wp_fieldN dlS rfl (e1) (by omega) ⟨_, rfl, rfl, Below.refl _ _⟩
        case o7 =>
          refine LnOp.line 2 rfl rfl (fun A va w' hF hT hJ hu hd => ?_)
          have e1 : A.eval (.tmp 30) = .pointer (some ⟨BO, 0 + 0, none⟩) := (hT 30 6 (by simp) rfl).trans (hd ⟨6, .data⟩ (by simp) rfl rfl)
          have x2 : A.eval (.tmp 29) = va 5 := hT 29 5 (by simp) rfl
          have hJ' := hJ
          obtain ⟨hJ0, ad7, c7, es, hOs, hBs, hn7⟩ := hJ
          refine wp_boxSet (j := 0) rfl (by kernel_rfl) e1 (x2.trans es) rfl rfl hBs (by simp) (fun w2 hg hB2 => ?_)
          exact ⟨_, rfl, PshJ.sto hJ' hOs hn7 hg hB2, (Twb.refl (r := Value.ownBlock (.slice wa d.writes.length wc))).box hg⟩
        case fin =>
          intro vs1 W9 hJ hG
          obtain ⟨htw, ad9, c9, hO9, hB9, hn9⟩ := hJ
          have g0 : vs1 0 = .pointer (some ⟨BO, 0 + 0, none⟩) := hG 0 (by decide) rfl
          have g1 : vs1 1 = .slice wa d.writes.length wc := hG 1 (by decide) rfl
          have g2 : vs1 2 = .agg #[.int .i64 x.table, .slice KA x.key.length KC, .bool x.gone, .slice VA x.val.length VC] := hG 2 (by decide) rfl
          have g6 : vs1 6 = .pointer (some ⟨BO, 0 + 0, none⟩) := hG 6 (by decide) rfl
          clear hG
          simp only [putAll, g0, g1, g2, g6]
          clear g0 g1 g2 g6
          go_simp
          have hBZ9 := htw.boxN hBZ (fun e => by have := hOw0 _ e.symm; omega) (by omega)
          have q9 : Below w.heap.size w W9 := htw.belowB q (fun k hk => by have := hOw0 k hk; omega) (by omega)
          have hap := hOm.apart2 (by decide) hOw
          have hOm9 := hOm.num2 (w' := W9) fun g hg => htw.block g (by have := hOm0 g hg; omega) (fun e => by
            rcases hap with h | h
            · rw [hg] at h; cases h
            · exact h (by rw [hg, e])) (by have := hOm0 g hg; omega)
          replace hO9 := hO9.unbut
          obtain ⟨L9, hL9⟩ : ∃ L9, L9 = (d.writes ++ [x]).length := ⟨_, rfl⟩
          simp only [List.set_cons_zero] at hB9
          rw [← hL9] at hO9 hB9
          replace hL9 := Lib.hid hL9
          have o0 := hB9.cell (i := 0) rfl
          have o1 := hB9.cell (i := 1) rfl
          clear hOw hOm hBO htw
          go_wp2_with (first | (refine wpList_boxStore (us := [.slice ad9 L9 c9, .slice ma d.marks.length mc]) (by kernel_rfl) rfl rfl rfl rfl rfl rfl hBZ9 rfl ?_; intro wd hgd hBd) | fail)
          have d0 := hBd.cell (i := 0) rfl
          have d1 := hBd.cell (i := 1) rfl
          obtain ⟨fs, hu, _⟩ := dlS.hu
          refine bodyPost_ret (v := .tuple #[.agg #[.slice ad9 L9 c9, .slice ma d.marks.length mc], .int .i64 0]) (by simp [results, Try.results10, go_sem, loadVar, isAgg, run_underlying hu, run_sizeOf' dlS.hs, loadCellsFrom, Addr.add, d0, d1]) rfl ?_
          rw [DlEnd, HK.out]
          have hL := hL9.out
          subst hL
          exact ⟨_, rfl, ⟨ad9, c9, ma, mc, rfl, (hO9.other hgd (by omega) (by omega)).rdS fun k hk hl => ⟨by omega, hl⟩, (hOm9.other hgd (by omega) (by omega)).rdS fun k hk hl => ⟨by omega, hl⟩⟩, q9.grown hgd q9.size fun k e => by injection e with e; omega⟩
    · have dm : decide (mayW x) = false := decide_eq_false hmay
      have HK := Lib.hid (show putD d x = (d, 1) by unfold putD; rw [if_neg (fun h => hmay h.2)])
      have o0 := hBO.cell (i := 0) rfl
      have o1 := hBO.cell (i := 1) rfl
      go_wp2_with (first | (refine wpList_boxStore (us := [.slice wa d.writes.length wc, .slice ma d.marks.length mc]) (by kernel_rfl) rfl rfl rfl rfl rfl rfl hBZ rfl ?_; intro wd hgd hBd) | fail)
      have d0 := hBd.cell (i := 0) rfl
      have d1 := hBd.cell (i := 1) rfl
      obtain ⟨fs, hu, _⟩ := dlS.hu
      refine bodyPost_ret (v := .tuple #[.agg #[.slice wa d.writes.length wc, .slice ma d.marks.length mc], .int .i64 1]) (by simp [results, Try.results10, go_sem, loadVar, isAgg, run_underlying hu, run_sizeOf' dlS.hs, loadCellsFrom, Addr.add, d0, d1]) rfl ?_
      rw [DlEnd, HK.out]
      exact ⟨_, rfl, ⟨wa, wc, ma, mc, rfl, (hOw.unbut.other hgd (by omega) (by omega)).rdS fun k hk hl => ⟨by omega, hl⟩, (hOm.other hgd (by omega) (by omega)).rdS fun k hk hl => ⟨by omega, hl⟩⟩, q.grown hgd q.size fun k e => by injection e with e; omega⟩
  · have dok : decide (okD d) = false := decide_eq_false hok
    have HK := Lib.hid (show putD d x = (d, 1) by unfold putD; rw [if_neg (fun h => hok h.1)])
    have z4 := hb4.size
    have o0 := hBO.cell (i := 0) rfl
    have o1 := hBO.cell (i := 1) rfl
    go_wp2_with (first | (refine wpList_boxStore (us := [.slice wa d.writes.length wc, .slice ma d.marks.length mc]) (by kernel_rfl) rfl rfl rfl rfl rfl rfl hBZ rfl ?_; intro wd hgd hBd) | fail)
    have d0 := hBd.cell (i := 0) rfl
    have d1 := hBd.cell (i := 1) rfl
    obtain ⟨fs, hu, _⟩ := dlS.hu
    refine bodyPost_ret (v := .tuple #[.agg #[.slice wa d.writes.length wc, .slice ma d.marks.length mc], .int .i64 1]) (by simp [results, Try.results10, go_sem, loadVar, isAgg, run_underlying hu, run_sizeOf' dlS.hs, loadCellsFrom, Addr.add, d0, d1]) rfl ?_
    rw [DlEnd, HK.out]
    exact ⟨_, rfl, ⟨wa, wc, ma, mc, rfl, (hOw.unbut.other hgd (by omega) (by omega)).rdS fun k hk hl => ⟨by omega, hl⟩, (hOm.other hgd (by omega) (by omega)).rdS fun k hk hl => ⟨by omega, hl⟩⟩, q.grown hgd q.size fun k e => by injection e with e; omega⟩
end Go.Proofs.Ytjbdkhddnblieaa
namespace Go.Proofs.Ytjbdkhddnblieaa
open Go.RowKit Go.Shelf
attribute [local go_sem] Oper.semAt_some
structure WrAt (w0 : World) where
  i : Nat
  t : Wr
  KA : Option Addr
  KC : Nat
  VA : Option Addr
  VC : Nat
  rk : RdS (· < w0.heap.size) w0 (.slice KA t.key.length KC) t.key
  rv : RdS (· < w0.heap.size) w0 (.slice VA t.val.length VC) t.val
  ht : W64 t.table
  hk : t.key.length ≤ 1000000
  hv : t.val.length ≤ 1000000
def WrAt.val {w0 : World} (x : WrAt w0) : Value := .agg #[.int .i64 x.t.table, .slice x.KA x.t.key.length x.KC, .bool x.t.gone, .slice x.VA x.t.val.length x.VC]
def WrAt.enc {w0 : World} (x : WrAt w0) : Array Value := #[.int .i64 (x.i : Int), x.val]
theorem WrAt.rd {w0 w : World} (x : WrAt w0) (h : Below w0.heap.size w0 w) : RdWr (· < w0.heap.size) w x.val x.t :=
  ⟨x.KA, x.KC, x.VA, x.VC, rfl, x.rk.below h, x.rv.below h, x.ht⟩
def KpL (n₀ : Nat) (A B : World) : Prop := Below n₀ A B ∧ ∀ (j : Nat) (c : Array Value) (r : Nat × Nat), A.heap[j]? = some (.cells c 22 r) → B.heap[j]? = A.heap[j]?
theorem KpL.trans {n₀ : Nat} {A B C : World} (h : KpL n₀ A B) (k : KpL n₀ B C) : KpL n₀ A C := ⟨h.1.trans k.1, fun j c r e => (k.2 j c r ((h.2 j c r e).trans e)).trans (h.2 j c r e)⟩
theorem KpL.refl (n₀ : Nat) (A : World) : KpL n₀ A A := ⟨Below.refl _ _, fun _ _ _ _ => rfl⟩
theorem KpL.of {n₀ : Nat} {A B : World} (h : Below A.heap.size A B) (hn : n₀ ≤ A.heap.size) : KpL n₀ A B := ⟨h.mono hn, fun j _ _ e => h.block j (Array.getElem?_eq_some_iff.1 e).1⟩
theorem KpL.box {n₀ b : Nat} {A B : World} {vs : List Value} (h : KpL n₀ A B) (t : BoxN A b 22 vs) : BoxN B b 22 vs := (h.2 b _ _ t).trans t
def PreW {w0 : World} (ls : List Wr) (ys : List (WrAt w0)) : Prop := ∃ r, ls = ys.map (·.t) ++ r
set_option maxRecDepth 100000 in
set_option maxHeartbeats 4000000 in
theorem bwd1_in (l : Nat) {w0 : World} {J Jx : List (WrAt w0) → World → Prop} {sb N : Nat} {a : Option Addr} {n c : Nat} {ls : List Wr} (hl : RdL Elt.wr (· < w0.heap.size) w0 (.slice a n c) ls) (hs : ∀ x ∈ ls, x.key.length ≤ 1000000 ∧ x.val.length ≤ 1000000) (hn : ls.length ≤ 1000000)
    (hY : ∀ pre x W, J pre W → pre.length < N → YieldAt Fence.wide 1 Try.prog l x.enc W fun e W' => (e = .returned (.bool true) ∧ J (pre ++ [x]) W' ∧ KpL w0.heap.size W W') ∨ (e = .returned (.bool false) ∧ Jx (pre ++ [x]) W'))
    (W : World) (hW : Below w0.heap.size w0 W) (hsb : BoxN W sb 22 [.slice a n c]) (h0 : J [] W) (hN : ls.length ≤ N) :
    CallsIn Fence.wide 2 Try.prog 50 #[.func (.yield l) #[] #[], .pointer (some ⟨sb, 0, none⟩)] W fun e W' => (∃ v, e = .returned v) ∧ ((∃ ys : List (WrAt w0), ys.map (·.t) = ls.reverse ∧ J ys W') ∨ (∃ pre, PreW ls.reverse pre ∧ Jx pre W')) := by
  obtain ⟨rfl, hnc, hcm⟩ := hl.len
  have b0 := hsb.cell (i := 0) rfl
  refine callsIn_of_wp Try.func50 rfl trivial ?_ rfl
  simp only [Try.ntmps50, List.size_toArray, List.length_cons, List.length_nil, Nat.reduceAdd, Nat.reduceSub, Array.replicate_succ, Array.replicate_zero, List.push_toArray, List.append_toArray, List.nil_append, List.cons_append]
  gi_wp2
  clear b0
  gi_loopw [3] (fun v wr => ∃ (k : Nat) (i : Int) (pre : List (WrAt w0)), v = .int .i64 i ∧ i = (k : Int) - 1 ∧ k ≤ ls.length ∧ pre.map (·.t) = (ls.drop k).reverse ∧ J pre wr ∧ KpL w0.heap.size W wr)
    (fun v _ => (intOf v + 1).toNat)
  case atStart => exact ⟨ls.length, _, [], rfl, rfl, Nat.le_refl _, by simp, h0, KpL.refl _ _⟩
  case round =>
    obtain ⟨k, i, pre, rfl, hi, hkl, hpre, hJ, hK⟩ := hrel
    cases k with
    | zero =>
      have d0 : decide (0 ≤ i) = false := decide_eq_false (by omega)
      replace hi := Lib.hid hi
      gi_wp2
      go_end0
      exact ⟨⟨_, rfl⟩, .inl ⟨pre, by simpa using hpre, hJ⟩⟩
    | succ j =>
      obtain rfl : i = (j : Int) := by omega
      clear hi
      have hlt : j < ls.length := by omega
      obtain ⟨b, off, KA, KC, VA, VC, rfl, hb, c0, c1, c2, c3, hk1, hk2, hw64⟩ := hl.wr j hlt
      obtain ⟨hx1, hx2⟩ := hs _ (List.getElem_mem hlt)
      have q : Below w0.heap.size w0 wr := hW.trans hK.1
      have e0 := (q.cell (p := ⟨b, off + j * 4, none⟩) hb).trans c0
      have e1 := (q.cell (p := ⟨b, off + j * 4 + 1, none⟩) hb).trans c1
      have e2 := (q.cell (p := ⟨b, off + j * 4 + 2, none⟩) hb).trans c2
      have e3 := (q.cell (p := ⟨b, off + j * 4 + 3, none⟩) hb).trans c3
      have b1 := (hK.box hsb).cell (i := 0) rfl
      have hpl : pre.length < N := by
        have := congrArg List.length hpre
        rw [List.length_map, List.length_reverse, List.length_drop] at this
        omega
      have hy0 := hY pre ⟨j, ls[j], KA, KC, VA, VC, hk1, hk2, hw64, hx1, hx2⟩ wr hJ hpl
      obtain ⟨fn, tmps, assign, body, hy, hR⟩ := hy0
      dsimp only [WrAt.enc, WrAt.val] at hy
      have hnew : (pre ++ [(⟨j, ls[j], KA, KC, VA, VC, hk1, hk2, hw64, hx1, hx2⟩ : WrAt w0)]).map (·.t) = (ls.drop j).reverse := by
        rw [List.map_append, hpre, List.drop_eq_getElem_cons hlt, List.reverse_cons]
        rfl
      replace hpre := Lib.hid hpre
      clear c0 c1 c2 c3
      gi_wp2
      refine hR.mono ?_
      rintro e W3 (⟨rfl, hJ3, hk3⟩ | ⟨rfl, hJx3⟩)
      · clear b1 e0 e1 e2 e3
        gi_wp2
        exact ⟨⟨j, _, _, rfl, rfl, by omega, hnew, hJ3, hK.trans hk3⟩, by simp [intOf]⟩
      · clear b1 e0 e1 e2 e3
        gi_wp2
        refine bodyPost_ret (v := .tuple #[]) (by simp [results, Try.results50, go_sem]) rfl ?_
        refine ⟨⟨_, rfl⟩, .inr ⟨_, ⟨(ls.take j).reverse, ?_⟩, hJx3⟩⟩
        rw [hnew, ← List.reverse_append, List.take_append_drop]
theorem bwd_stops {w0 w : World} {sb N : Nat} {a : Option Addr} {n c : Nat} {ls : List Wr} (hl : RdL Elt.wr (· < w0.heap.size) w0 (.slice a n c) ls) (hs : ∀ x ∈ ls, x.key.length ≤ 1000000 ∧ x.val.length ≤ 1000000) (hn : ls.length ≤ 1000000) (hw : Below w0.heap.size w0 w) (hsb : BoxN w sb 22 [.slice a n c]) (hN : ls.length ≤ N) :
    SeqStopsK Fence.wide 2 Try.prog 50 #[.pointer (some ⟨sb, 0, none⟩)] WrAt.enc (KpL w0.heap.size) (fun ys : List (WrAt w0) => ys.map (·.t) = ls.reverse) (PreW ls.reverse) N w := fun l _ _ W hW _ _ hY h0 =>
  bwd1_in l hl hs hn hY W (hw.trans (hW.mono hw.size)) (hsb.below hW hsb.lt) h0 hN
set_option maxRecDepth 100000 in
theorem bwd_any (w : World) (a : Option Addr) (m c : Nat) :
    Calls Try.prog 38 #[.slice a m c] w fun e w' => e = .returned (.func (.func 50) #[] #[.pointer (some ⟨w.heap.size, 0, none⟩)]) ∧ w' = w.alloc (.cells #[.slice a m c] 22) := by
  go_enter Try.func38, Try.ntmps38
  go_wp2
  go_ret
  exact ⟨rfl, rfl⟩
end Go.Proofs.Ytjbdkhddnblieaa
namespace Go.Proofs.Ytjbdkhddnblieaa
open Go.RowKit Go.Shelf
attribute [local go_sem] Oper.semAt_some
def noWr : Wr := ⟨0, [], false, []⟩
def FndEnd (w : World) (r : Option Wr) (e : Ending) (w' : World) : Prop := ∃ v', e = .returned (.tuple #[v', .bool r.isSome]) ∧ RdWr (fun k => w.heap.size ≤ k ∧ k < w'.heap.size) w' v' (r.getD noWr) ∧ Below w.heap.size w w'
theorem rdS_ownN {S : Nat → Prop} {v : Value} {t : List UInt8} {X Y : World} {row : Option Nat} (h : RdS S X v t) (hg : X.grownBy Y row) (hr : ∀ r, row = some r → ∃ o : Obj, X.heap[r]? = some o ∧ o.isCells = false) : RdS S Y v t := by
  rcases h with h | ⟨b, off, cap, hv, hb, h1, h2, hc⟩
  · exact .inl h
  · by_cases h0 : t = []
    · subst h0; exact .inl ⟨_, _, hv, h2, rfl⟩
    · have hpos : 0 < t.length := List.length_pos_iff.2 h0
      have hcell := hc 0 _ (bv_get t 0 hpos)
      have hk : Y.heap[b]? = X.heap[b]? := hg.block b (cell_lt hcell) fun e => by
        obtain ⟨o, ho, hcl⟩ := hr b e.symm
        simp only [World.cell?, ho] at hcell
        cases o <;> simp [Obj.isCells] at hcl hcell
      exact .inr ⟨b, off, cap, hv, hb, h1, h2, fun j u hj => (cell_keep hk _).trans (hc j u hj)⟩
theorem keepsFrom_box {B b : Nat} {w w' : World} {t : TypeId} {vs : List Value} (hb : BoxN w b t vs) (hg : w.grownBy w' (some b)) : KeepsFrom B w w' :=
  ⟨hg.size, fun k o _ hk hc => (hg.block k (Array.getElem?_eq_some_iff.1 hk).1 fun e => by
    injection e with e
    subst e
    rw [show w.heap[k]? = _ from hb] at hk
    cases hk
    cases hc).trans hk⟩
theorem keepsFrom_below {B : Nat} {w w' : World} (h : Below w.heap.size w w') : KeepsFrom B w w' := KeepsFrom.of_grownBy (grown_below' h none) (fun j e => by cases e)
theorem kpL_boxN {n₀ b : Nat} {w w' : World} {t : TypeId} {vs : List Value} (hb : BoxN w b t vs) (hg : w.grownBy w' (some b)) (hn : n₀ ≤ b) (hn2 : n₀ ≤ w.heap.size) (ht : t ≠ 22) : KpL n₀ w w' :=
  ⟨(Below.refl _ _).grown hg hn2 fun k e => by injection e with e; omega, fun j _ _ e => hg.block j (Array.getElem?_eq_some_iff.1 e).1 fun e2 => by
    injection e2 with e2
    subst e2
    rw [show w.heap[j]? = _ from hb] at e
    injection e with e
    injection e with _ e
    exact ht e⟩
theorem findE_app {K α : Type} [DecidableEq K] {key : α → K} {k : K} {l r : List α} (h : ∀ y ∈ l, key y ≠ k) : findE key k (l ++ r) = findE key k r := by
  induction l with
  | nil => rfl
  | cons y l ih => rw [List.cons_append, findE_cons, if_neg (h y (by simp)), ih fun z hz => h z (by simp [hz])]
theorem kpL_b {n₀ : Nat} {w : World} (hn : n₀ ≤ w.heap.size) (W : World) (l : Nat) (o o' : Obj) (hl : w.heap.size ≤ l) (h1 : W.heap[l]? = some o) (h2 : o.isCells = false) (h3 : o.isWalk = false) : KpL n₀ W (W.putObj l o') :=
  ⟨belowK_b hn W l o o' hl h1 h2 h3, fun j _ _ e => World.putObj_heap_other (fun e2 => by subst e2; rw [h1] at e; cases e; cases h2)⟩
set_option maxRecDepth 100000 in
set_option maxHeartbeats 8000000 in
theorem dFind_any (w : World) {S S2 : Nat → Prop} {v : Value} {d : Dl} {t : Int} {a0 : Option Addr} {n0 c0 : Nat} {key : List UInt8} (h : RdDl S w v d) (hs : smD d) (hk : RdS S2 w (.slice a0 n0 c0) key) :
    Calls Try.prog 20 #[v, .int .i64 t, .slice a0 n0 c0] w (FndEnd w (findD d ⟨t, key⟩)) := by
  replace h : RdDl (· < w.heap.size) w v d := by
    obtain ⟨a, c, a2, c2, e, h1, h2⟩ := h
    exact ⟨a, c, a2, c2, e, h1.fit.weak fun _ hk => hk.2, h2.fit.weak fun _ hk => hk.2⟩
  replace hk : RdS (· < w.heap.size) w (.slice a0 n0 c0) key := hk.fit.weak fun _ h => h.2
  obtain ⟨rfl, _, _⟩ := hk.len
  have hd := h
  obtain ⟨a, c, a2, c2, rfl, hw, hm⟩ := h
  obtain ⟨W0, hW, q, bn, bz, by0, hsz⟩ := boxes3 w 25 28 4 [.slice a d.writes.length c, .slice a2 d.marks.length c2] [.int .i64 0, .slice none 0 0, .bool false, .slice none 0 0] [.bool false]
  refine calls_of_wp_marks Try.func20 rfl ?_
  simp only [Try.ntmps20, List.size_toArray, List.length_cons, List.length_nil, Nat.reduceAdd, Nat.reduceSub, Array.replicate_succ, Array.replicate_zero, List.push_toArray, List.append_toArray, List.nil_append, List.cons_append]
  go_upto_region 1 with (fail)
  rw [show ((w.alloc (.cells #[.slice a d.writes.length c, .slice a2 d.marks.length c2] 25)).alloc (.cells #[.int .i64 0, .slice none 0 0, .bool false, .slice none 0 0] 28)).alloc (.cells #[.bool false] 4) = W0 from hW.symm]
  clear hW
  have b0 := bn.cell (i := 0) rfl
  have b1 := bn.cell (i := 1) rfl
  go_wp2_with fail
  refine (dCheck_any W0 (hd.below q)).mono ?_
  rintro e w4 ⟨rfl, hb4⟩
  have z4 := hb4.size
  replace q := q.trans (hb4.mono q.size)
  replace bn := bn.below hb4 bn.lt
  replace bz := bz.below hb4 bz.lt
  replace by0 := by0.below hb4 by0.lt
  clear b0 b1 hb4
  by_cases hok : okD d
  · have dok : decide (okD d) = true := decide_eq_true hok
    have b0 := bn.cell (i := 0) rfl
    have bp1 := BoxN.new w4 62 [.int .i64 t, .string (strOf key)]
    have bf1 := BoxN.new (w4.alloc (.cells [.int .i64 t, .string (strOf key)].toArray 62)) 58 [Value.nilFunc]
    have s1 : (w4.alloc (.cells [.int .i64 t, .string (strOf key)].toArray 62)).heap.size = w4.heap.size + 1 := World.size_alloc _ _
    have hb1 : Below w4.heap.size w4 (w4.alloc (.cells [.int .i64 t, .string (strOf key)].toArray 62)) := (Below.refl _ _).alloc (Nat.le_refl _) _
    have hb2 : Below (w4.alloc (.cells [.int .i64 t, .string (strOf key)].toArray 62)).heap.size (w4.alloc (.cells [.int .i64 t, .string (strOf key)].toArray 62)) ((w4.alloc (.cells [.int .i64 t, .string (strOf key)].toArray 62)).alloc (.cells [Value.nilFunc].toArray 58)) := (Below.refl _ _).alloc (Nat.le_refl _) _
    have bp2 := bp1.below hb2 bp1.lt
    rw [s1] at bf1
    go_upto_region 5 with (first | (refine wpList_conv byP rfl rfl rfl ((hk.below q).rd) ?_) | (refine wpList_boxSet (j := 0) rfl rfl rfl (by kernel_rfl) rfl rfl rfl rfl bf1 (by simp) ?_; intro w7 hg7 hB7) | fail)
    go_simp
    have hb47 : Below w4.heap.size w4 w7 := (hb1.trans (hb2.mono hb1.size)).grown hg7 (by simp; omega) fun k e => by injection e with e; omega
    have bp7 := bp2.other hg7 (by simp)
    have z7 := hb47.size
    have z7' : w4.heap.size + 2 ≤ w7.heap.size := by have := hg7.size; simp at this; omega
    replace q := q.trans (hb47.mono q.size)
    replace bn := bn.below hb47 bn.lt
    replace bz := bz.below hb47 bz.lt
    replace by0 := by0.below hb47 by0.lt
    simp only [List.set_cons_zero] at hB7
    clear bp1 bf1 s1 hb1 hb2 bp2 hg7 hb47 b0
    obtain ⟨pb, epb⟩ : ∃ pb, pb = w4.heap.size := ⟨_, rfl⟩
    rw [← epb] at hB7 bp7 z7'
    rw [← epb]
    have zpb : w.heap.size + 1 + 1 < pb := by omega
    clear epb z4 z7
    have b0 := bn.cell (i := 0) rfl
    go_wp2_with fail
    refine (bwd_any w7 _ _ _).mono ?_
    rintro e wS ⟨rfl, hw'⟩
    have bS := BoxN.new w7 22 [.slice a d.writes.length c]
    have hbS : Below w7.heap.size w7 wS := by rw [hw']; exact (Below.refl _ _).alloc (Nat.le_refl _) _
    replace bS : BoxN wS w7.heap.size 22 [.slice a d.writes.length c] := by rw [hw']; exact bS
    have zS : wS.heap.size = w7.heap.size + 1 := by rw [hw']; exact World.size_alloc _ _
    clear hw' b0
    replace q := q.trans (hbS.mono q.size)
    replace bz := bz.below hbS bz.lt
    replace by0 := by0.below hbS by0.lt
    replace bp7 := bp7.below hbS bp7.lt
    replace hB7 := hB7.below hbS hB7.lt
    clear bn hbS
    have hst := bwd_stops (N := d.writes.length) hw hs.2.2 hs.1 q bS (Nat.le_refl _)
    clear bS
    go_wp2_with fail
    refine wp_rangeFuncH (gf := 50) (lb := #[.pointer (some ⟨w7.heap.size, 0, none⟩)]) rfl (enters_of Try.func50 (by kernel_rfl) rfl)
      hst (fun h k => h.trans k) (kpL_b q.size) (Below.refl _ _) (fun _ => rfl)
      (fun (pre : List (WrAt w)) W => (∀ y ∈ pre, y.t.plc ≠ ⟨t, key⟩) ∧ BoxN W (w.heap.size + 1) 28 [.int .i64 0, .slice none 0 0, .bool false, .slice none 0 0] ∧ BoxN W (w.heap.size + 1 + 1) 4 [.bool false] ∧ BoxN W pb 62 [.int .i64 t, .string (strOf key)] ∧ BoxN W (pb + 1) 58 [.func (.func 36) #[] #[.pointer (some ⟨pb, 0, none⟩)]] ∧ Below w.heap.size w W ∧ wS.heap.size ≤ W.heap.size)
      (fun c pre W => c = .ret ∧ ∃ (ini : List (WrAt w)) (y : WrAt w) (ka va : Option Addr) (kc vc : Nat), pre = ini ++ [y] ∧ (∀ y ∈ ini, y.t.plc ≠ ⟨t, key⟩) ∧ y.t.plc = ⟨t, key⟩ ∧ BoxN W (w.heap.size + 1) 28 [.int .i64 y.t.table, .slice ka y.t.key.length kc, .bool y.t.gone, .slice va y.t.val.length vc] ∧ BoxN W (w.heap.size + 1 + 1) 4 [.bool true] ∧ RdS (fun g => w.heap.size ≤ g ∧ g < W.heap.size) W (.slice ka y.t.key.length kc) y.t.key ∧ RdS (fun g => w.heap.size ≤ g ∧ g < W.heap.size) W (.slice va y.t.val.length vc) y.t.val ∧ Below w.heap.size w W)
      ?hI ?hIx ⟨(by simp), bz, by0, bp7, hB7, q, Nat.le_refl _⟩
      (fun (y : WrAt w) a' W => ∃ Bx, wS.heap.size ≤ Bx ∧ BoxN W Bx 28 [.int .i64 y.t.table, .slice y.KA y.t.key.length y.KC, .bool y.t.gone, .slice y.VA y.t.val.length y.VC] ∧ a' = { tmps := #[.agg #[.slice a d.writes.length c, .slice a2 d.marks.length c2], .int .i64 t, .slice a0 key.length c0, .pointer (some ⟨w.heap.size, 0, none⟩), undef, undef, .pointer (some ⟨w.heap.size + 1, 0, none⟩), .pointer (some ⟨w.heap.size + 1 + 1, 0, none⟩), .pointer (some ⟨pb, 0, none⟩), .pointer (some ⟨pb + 1, 0, none⟩), undef, .pointer (some ⟨Bx, 0, none⟩), .agg #[.slice a d.writes.length c, .slice a2 d.marks.length c2], .bool true, .bool false, undef, .int .i64 t, .slice a0 key.length c0, .string (strOf key), .agg #[.int .i64 t, .string (strOf key)], .func (.func 36) #[] #[.pointer (some ⟨pb, 0, none⟩)], .pointer (some ⟨w.heap.size, 0, none⟩), .slice a d.writes.length c, .func (.func 50) #[] #[.pointer (some ⟨w7.heap.size, 0, none⟩)], .int .i64 (y.i : Int), .agg #[.int .i64 y.t.table, .slice y.KA y.t.key.length y.KC, .bool y.t.gone, .slice y.VA y.t.val.length y.VC], undef, undef, undef, undef, undef, undef], defers := [] })
      ?hAx ?assign ?body ?done ?stop
    case hI => exact OwnFrom.and (fun _ _ _ _ hs _ _ => hs) (OwnFrom.and boxN_own (OwnFrom.and boxN_own (OwnFrom.and boxN_own (OwnFrom.and boxN_own (OwnFrom.and (below_ownN (Nat.le_refl _) (by omega)) (fun _ _ _ _ hs hg _ => Nat.le_trans hs hg.size))))))
    case hIx =>
      intro c s X Y row hs hg hr
      obtain ⟨ec, ini, y, ka, va, kc, vc, e1, e2, e3, h1, h2, h3, h4, h5⟩ := hs
      exact ⟨ec, ini, y, ka, va, kc, vc, e1, e2, e3, boxN_own () X Y row h1 hg hr, boxN_own () X Y row h2 hg hr, (rdS_ownN h3 hg fun r e => (hr r e).2).weak fun g hg2 => ⟨hg2.1, Nat.lt_of_lt_of_le hg2.2 hg.size⟩, (rdS_ownN h4 hg fun r e => (hr r e).2).weak fun g hg2 => ⟨hg2.1, Nat.lt_of_lt_of_le hg2.2 hg.size⟩, below_ownN (β := Unit) (N := wS.heap.size) (Nat.le_refl _) (by omega) () X Y row h5 hg hr⟩
    case hAx =>
      intro y a' _ X Y row hs hg hr
      obtain ⟨Bx, h1, h2, e⟩ := hs
      exact ⟨Bx, h1, boxN_own () X Y row h2 hg hr, e⟩
    case assign =>
      rintro l pre y W K ⟨hne, hz, hy0, hp, hf, hbw, hWS⟩ hK
      have hs1 := hz.lt
      have hs2 := hy0.lt
      have hs3 := hp.lt
      have hs4 := hf.lt
      have eZ : (#[24, 25] : Array Tmp).zip y.enc = #[(24, .int .i64 (y.i : Int)), (25, .agg #[.int .i64 y.t.table, .slice y.KA y.t.key.length y.KC, .bool y.t.gone, .slice y.VA y.t.val.length y.VC])] := by kernel_rfl
      rw [eZ]
      simp only [List.foldl_toArray', List.foldl_cons, List.foldl_nil]
      go_simp
      gi_wp2_with (first | (refine inR_boxNew (vs := [.int .i64 0, .slice none 0 0, .bool false, .slice none 0 0]) (by kernel_rfl) rfl rfl ?_; intro wa hba hBa) | (refine inR_boxStore (us := [.int .i64 y.t.table, .slice y.KA y.t.key.length y.KC, .bool y.t.gone, .slice y.VA y.t.val.length y.VC]) (by kernel_rfl) rfl rfl rfl rfl rfl rfl hBa rfl ?_; intro wb hgb hBb) | fail)
      have zz := hba.size
      have hbb := hba.grown hgb hba.size fun k e => by injection e with e; omega
      exact hK _ _ ((keepsFrom_below hba).trans (keepsFrom_box hBa hgb)) ((KpL.of hba hbw.size).trans (kpL_boxN hBa hgb hbw.size (by omega) (by decide))) ⟨hne, hz.below hbb hs1, hy0.below hbb hs2, hp.below hbb hs3, hf.below hbb hs4, hbw.trans (hbb.mono hbw.size), Nat.le_trans hWS hbb.size⟩ ⟨W.heap.size, hWS, hBb, rfl⟩
    case body =>
      rintro l pre y a' W ⟨hne, hz, hy0, hp, hf, hbw, hWS⟩ ⟨Bx, hBx, hbx, rfl⟩ hlt
      have hs1 := hz.lt
      have hs2 := hy0.lt
      have hcl := CallsIn.inRound l ((callsIn_wide (n := 0)).2 (findIs_any W (p := ⟨t, key⟩) (y.rd hbw) hp))
      have f0 := hf.cell (i := 0) rfl
      have x0 := hbx.cell (i := 0) rfl
      have x1 := hbx.cell (i := 1) rfl
      have x2 := hbx.cell (i := 2) rfl
      have x3 := hbx.cell (i := 3) rfl
      dsimp only [WrAt.val] at hcl
      gi_wp2
      refine ⟨trivial, hcl.mono ?_⟩
      rintro e W3 ⟨rfl, hb3⟩
      have zb3 := hb3.size
      by_cases hm : y.t.plc = ⟨t, key⟩
      · have dm : decide (y.t.plc = ⟨t, key⟩) = true := decide_eq_true hm
        replace hm := Lib.hid hm
        have hcl2 := CallsIn.inRound l ((callsIn_wide (n := 0)).2 (dAlone_any W3 ((y.rd hbw).below hb3) y.hk y.hv))
        have hbx3 := hbx.below hb3 hbx.lt
        clear x0 x1 x2 x3 f0 hcl
        have x0 := hbx3.cell (i := 0) rfl
        have x1 := hbx3.cell (i := 1) rfl
        have x2 := hbx3.cell (i := 2) rfl
        have x3 := hbx3.cell (i := 3) rfl
        dsimp only [WrAt.val] at hcl2
        gi_wp2
        refine ⟨trivial, hcl2.mono ?_⟩
        rintro e W4 ⟨v4, rfl, ⟨ka, kc, va, vc, rfl, hk4, hv4, ht4⟩, hb4⟩
        have zb4 := hb4.size
        have hb34 := hb3.trans (hb4.mono zb3)
        have hz4 := hz.below hb34 hs1
        have hy4 := hy0.below hb34 hs2
        gi_wp2_with (first | (refine inR_boxStore (us := [.int .i64 y.t.table, .slice ka y.t.key.length kc, .bool y.t.gone, .slice va y.t.val.length vc]) (by kernel_rfl) rfl rfl rfl rfl rfl rfl hz4 rfl ?_; intro W5 hg5 hB5) | (refine inR_boxSet (j := 0) rfl rfl rfl (by kernel_rfl) rfl rfl rfl rfl (hy4.other hg5 (by simp)) (by simp) ?_; intro W6 hg6 hB6) | fail)
        have zb5 := hg5.size
        have zb6 := hg6.size
        have hqW := hbw.size
        have hk6 : ∀ k, W3.heap.size ≤ k ∧ k < W4.heap.size → W6.heap[k]? = W4.heap[k]? := fun k hk => (hg6.block k (by omega) fun e => by injection e with e; omega).trans (hg5.block k hk.2 fun e => by injection e with e; omega)
        refine ⟨((keepsFrom_below hb34).trans (keepsFrom_box hz4 hg5)).trans (keepsFrom_box (hy4.other hg5 (by simp)) hg6), rfl, pre, y, ka, va, kc, vc, rfl, hne, hm.out, hB5.other hg6 (by simp), hB6, (hk4.keep hk6).weak fun k hk => ⟨by omega, by omega⟩, (hv4.keep hk6).weak fun k hk => ⟨by omega, by omega⟩, ((hbw.trans (hb34.mono hqW)).grown hg5 (by omega) fun k e => by injection e with e; omega).grown hg6 (by omega) fun k e => by injection e with e; omega⟩
      · have dm : decide (y.t.plc = ⟨t, key⟩) = false := decide_eq_false hm
        replace hm := Lib.hid hm
        clear x0 x1 x2 x3 f0 hcl
        gi_wp2
        exact ⟨keepsFrom_below hb3, KpL.of hb3 hbw.size, fun z hz2 => by
          rcases List.mem_append.1 hz2 with h | h
          · exact hne z h
          · simp at h; subst h; exact hm.out, hz.below hb3 hs1, hy0.below hb3 hs2, hp.below hb3 hp.lt, hf.below hb3 hf.lt, hbw.trans (hb3.mono hbw.size), Nat.le_trans hWS hb3.size⟩
    case stop =>
      rintro D cc pre W hD ⟨r, hpre⟩ ⟨rfl, ini, y, ka, va, kc, vc, rfl, hne, hm, hz, hy0, hk4, hv4, hbw⟩ hK
      have HK := Lib.hid (show findD d ⟨t, key⟩ = some y.t by
        unfold findD findW
        rw [if_pos hok, hpre, List.map_append, List.append_assoc, findE_app (fun z hz => ?_)]
        · rw [List.map_cons, List.map_nil, List.singleton_append, findE_cons, if_pos hm]
        · obtain ⟨z', hz', rfl⟩ := List.mem_map.1 hz
          exact hne z' hz')
      replace hm := Lib.hid hm
      replace hpre := Lib.hid hpre
      go_wp2_with fail
      have hz5 := hz.other (grownBy_putObj' W D (Obj.deferred none)) (fun e => by injection e with e; subst e; rw [show W.heap[_]? = _ from hz] at hK; cases hK)
      have hy5 := hy0.other (grownBy_putObj' W D (Obj.deferred none)) (fun e => by injection e with e; subst e; rw [show W.heap[_]? = _ from hy0] at hK; cases hK)
      have c0 := hz5.cell (i := 0) rfl
      have c1 := hz5.cell (i := 1) rfl
      have c2 := hz5.cell (i := 2) rfl
      have c3 := hz5.cell (i := 3) rfl
      have d0 := hy5.cell (i := 0) rfl
      obtain ⟨fs, hu, _⟩ := wrS.hu
      refine ⟨by simp, .inl ⟨_, _, rfl, run_takeDeferred hK, ?_⟩⟩
      refine ⟨.tuple #[.agg #[.int .i64 y.t.table, .slice ka y.t.key.length kc, .bool y.t.gone, .slice va y.t.val.length vc], .bool true], by simp [results, Try.results20, go_sem, loadVar, isAgg, run_underlying hu, run_sizeOf' wrS.hs, loadCellsFrom, Addr.add, c0, c1, c2, c3, d0], ?_⟩
      rw [FndEnd, HK.out]
      exact ⟨_, rfl, ⟨ka, kc, va, vc, rfl, (rdS_ownN hk4 (grownBy_putObj' W D (Obj.deferred none)) fun r e => by injection e with e; subst e; exact ⟨_, hK, rfl⟩).weak fun g hg => ⟨hg.1, by simpa using hg.2⟩, (rdS_ownN hv4 (grownBy_putObj' W D (Obj.deferred none)) fun r e => by injection e with e; subst e; exact ⟨_, hK, rfl⟩).weak fun g hg => ⟨hg.1, by simpa using hg.2⟩, y.ht⟩, hbw.trans (belowK_b (w := w) (Nat.le_refl _) W D _ _ (by omega) hK rfl rfl)⟩
    case done =>
      rintro D ys W hD hys ⟨hne, hz, hy0, hp, hf, hbw, hWS⟩ hK
      have HK := Lib.hid (show findD d ⟨t, key⟩ = none by
        unfold findD findW
        rw [if_pos hok, ← hys]
        refine findE_none.2 fun z hz => ?_
        obtain ⟨z', hz', rfl⟩ := List.mem_map.1 hz
        exact hne z' hz')
      replace hys := Lib.hid hys
      go_wp2_with (first | (refine wpList_boxStore (us := [.int .i64 0, .slice none 0 0, .bool false, .slice none 0 0]) (by kernel_rfl) rfl rfl rfl rfl rfl rfl hz rfl ?_; intro W5 hg5 hB5) | (refine wpList_boxSet (j := 0) rfl rfl rfl (by kernel_rfl) rfl rfl rfl rfl (hy0.other hg5 (by simp)) (by simp) ?_; intro W6 hg6 hB6) | fail)
      have hK5 : W5.heap[D]? = some (.deferred (some [])) := (hg5.block D (Array.getElem?_eq_some_iff.1 hK).1 fun e => by injection e with e; subst e; rw [show W.heap[_]? = _ from hz] at hK; cases hK).trans hK
      have hy5 := hy0.other hg5 (by simp)
      have hK6 : W6.heap[D]? = some (.deferred (some [])) := (hg6.block D (Array.getElem?_eq_some_iff.1 hK5).1 fun e => by injection e with e; subst e; rw [show W5.heap[_]? = _ from hy5] at hK5; cases hK5).trans hK5
      have hz6 := hB5.other hg6 (by simp)
      have hqW := hbw.size
      have zb5 := hg5.size
      have hb6 : Below w.heap.size w W6 := (hbw.grown hg5 hqW fun k e => by injection e with e; omega).grown hg6 (by omega) fun k e => by injection e with e; omega
      refine ⟨by simp, .inl ⟨_, _, rfl, run_takeDeferred hK6, ?_⟩⟩
      have hz7 := hz6.other (grownBy_putObj' W6 D (Obj.deferred none)) (fun e => by injection e with e; subst e; rw [show W6.heap[_]? = _ from hz6] at hK6; cases hK6)
      have hy7 := hB6.other (grownBy_putObj' W6 D (Obj.deferred none)) (fun e => by injection e with e; subst e; rw [show W6.heap[_]? = _ from hB6] at hK6; cases hK6)
      have c0 := hz7.cell (i := 0) rfl
      have c1 := hz7.cell (i := 1) rfl
      have c2 := hz7.cell (i := 2) rfl
      have c3 := hz7.cell (i := 3) rfl
      have d0 : _ = some (Value.bool false) := hy7.cell (i := 0) rfl
      obtain ⟨fs, hu, _⟩ := wrS.hu
      refine ⟨.tuple #[.agg #[.int .i64 0, .slice none 0 0, .bool false, .slice none 0 0], .bool false], by simp [results, Try.results20, go_sem, loadVar, isAgg, run_underlying hu, run_sizeOf' wrS.hs, loadCellsFrom, Addr.add, c0, c1, c2, c3, d0], ?_⟩
      rw [FndEnd, HK.out]
      exact ⟨_, rfl, ⟨none, 0, none, 0, rfl, RdS.nil _ _, RdS.nil _ _, by unfold W64; decide⟩, hb6.trans (belowK_b (w := w) (Nat.le_refl _) W6 D _ _ (by omega) hK6 rfl rfl)⟩
  · have dok : decide (okD d) = false := decide_eq_false hok
    have HK := Lib.hid (show findD d ⟨t, key⟩ = none from if_neg hok)
    go_wp2_with (first | (refine wpList_boxStore (us := [.int .i64 0, .slice none 0 0, .bool false, .slice none 0 0]) (by kernel_rfl) rfl rfl rfl rfl rfl rfl bz rfl ?_; intro w5 hg5 hB5) | (refine wpList_boxSet (j := 0) rfl rfl rfl (by kernel_rfl) rfl rfl rfl rfl (by0.other hg5 (by simp)) (by simp) ?_; intro w6 hg6 hB6) | fail)
    have hz6 := hB5.other hg6 (by simp)
    have c0 := hz6.cell (i := 0) rfl
    have c1 := hz6.cell (i := 1) rfl
    have c2 := hz6.cell (i := 2) rfl
    have c3 := hz6.cell (i := 3) rfl
    have d0 : _ = some (Value.bool false) := hB6.cell (i := 0) rfl
    have hqW := q.size
    have zb5 := hg5.size
    have hb6 : Below w.heap.size w w6 := (q.grown hg5 hqW fun k e => by injection e with e; omega).grown hg6 (by omega) fun k e => by injection e with e; omega
    obtain ⟨fs, hu, _⟩ := wrS.hu
    refine ⟨.tuple #[.agg #[.int .i64 0, .slice none 0 0, .bool false, .slice none 0 0], .bool false], by simp [results, Try.results20, go_sem, loadVar, isAgg, run_underlying hu, run_sizeOf' wrS.hs, loadCellsFrom, Addr.add, c0, c1, c2, c3, d0], ?_⟩
    rw [FndEnd, HK.out]
    exact ⟨_, rfl, ⟨none, 0, none, 0, rfl, RdS.nil _ _, RdS.nil _ _, by unfold W64; decide⟩, hb6⟩
end Go.Proofs.Ytjbdkhddnblieaa
