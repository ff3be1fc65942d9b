/-
  TEXTS OF ONE PROOF, merged: WaM, WaA, WaI, Sink, Line, Cpy, Apv, Qui, LkS, LkR, ModB.
-/
import Derived.Laws.CopyRow
import Derived.Lib.OwnBridge
import Derived.Shelf.Slices.CompactI
import Derived.Shelf.Slices.In.SortNone
import Derived.Shelf.Sort.Plain
import Derived.Sort.OwnSortedInts
import Derived.WideShapes
import Derived.Test.YtpdnehgboafgpaaDoorKw2
namespace Go.Proofs.YtpdnehgboafgpaaDoor
abbrev Ed := Int × Int
def adjE (E : List Ed) (a b : Nat) : Bool := decide (a < 4) && decide (b < 4) && decide (((a : Int), (b : Int)) ∈ E)
def reachE (E : List Ed) : Nat → Nat → Nat → Bool
  | 0, _, _ => false
  | n + 1, a, b => adjE E a b || (List.range 4).any fun c => adjE E a c && reachE E n c b
inductive Wy (E : List Ed) : Nat → Nat → Prop
  | one {a b : Nat} : adjE E a b = true → Wy E a b
  | more {a b c : Nat} : adjE E a b = true → Wy E b c → Wy E a c
variable {E F : List Ed} {a b c n : Nat}
theorem adj_iff : adjE E a b = true ↔ a < 4 ∧ b < 4 ∧ ((a : Int), (b : Int)) ∈ E := by
  unfold adjE; simp [and_assoc]
theorem adj_mono (h : ∀ e ∈ E, e ∈ F) (h1 : adjE E a b = true) : adjE F a b = true := by
  rw [adj_iff] at h1 ⊢
  exact ⟨h1.1, h1.2.1, h _ h1.2.2⟩
theorem Wy.mono (h : ∀ e ∈ E, e ∈ F) (h1 : Wy E a b) : Wy F a b := by
  induction h1 with
  | one h1 => exact .one (adj_mono h h1)
  | more h1 _ ih => exact .more (adj_mono h h1) ih
theorem Wy.trans (h : Wy E a b) (h1 : Wy E b c) : Wy E a c := by
  induction h with
  | one h => exact .more h h1
  | more h _ ih => exact .more h (ih h1)
theorem Wy.lt (h : Wy E a b) : a < 4 ∧ b < 4 := by
  induction h with
  | one h => exact ⟨(adj_iff.1 h).1, (adj_iff.1 h).2.1⟩
  | more h _ ih => exact ⟨(adj_iff.1 h).1, ih.2⟩
theorem Wy.first (h : Wy E a b) : ∃ c, ((a : Int), (c : Int)) ∈ E := by
  cases h with
  | one h => exact ⟨_, (adj_iff.1 h).2.2⟩
  | more h _ => exact ⟨_, (adj_iff.1 h).2.2⟩
theorem reach_succ : reachE E (n + 1) a b = true ↔ adjE E a b = true ∨ ∃ c, adjE E a c = true ∧ reachE E n c b = true := by
  simp only [reachE, Bool.or_eq_true, List.any_eq_true, Bool.and_eq_true]
  constructor
  · rintro (h | ⟨c, _, h⟩)
    · exact .inl h
    · exact .inr ⟨c, h⟩
  · rintro (h | ⟨c, h⟩)
    · exact .inl h
    · exact .inr ⟨c, by have := (adj_iff.1 h.1).2.1; simpa using this, h⟩
theorem reach_wy : ∀ (n a b : Nat), reachE E n a b = true → Wy E a b
  | 0, _, _, h => by simp [reachE] at h
  | n + 1, a, b, h => by
    rcases reach_succ.1 h with h | ⟨c, h, h1⟩
    · exact .one h
    · exact .more h (reach_wy n c b h1)
theorem reach_up : ∀ (n a b : Nat), reachE E n a b = true → reachE E (n + 1) a b = true
  | 0, _, _, h => by simp [reachE] at h
  | n + 1, a, b, h => by
    rcases reach_succ.1 h with h | ⟨c, h, h1⟩
    · exact reach_succ.2 (.inl h)
    · exact reach_succ.2 (.inr ⟨c, h, reach_up n c b h1⟩)
theorem reach_last : ∀ (n a b : Nat), reachE E (n + 1) a b = true ↔ adjE E a b = true ∨ ∃ c, reachE E n a c = true ∧ adjE E c b = true
  | 0, a, b => by
    rw [reach_succ]
    constructor
    · rintro (h | ⟨c, _, h⟩)
      · exact .inl h
      · simp [reachE] at h
    · rintro (h | ⟨c, h, _⟩)
      · exact .inl h
      · simp [reachE] at h
  | n + 1, a, b => by
    rw [reach_succ]
    constructor
    · rintro (h | ⟨c, h, h1⟩)
      · exact .inl h
      · rcases (reach_last n c b).1 h1 with h2 | ⟨d, h2, h3⟩
        · exact .inr ⟨c, reach_succ.2 (.inl h), h2⟩
        · exact .inr ⟨d, reach_succ.2 (.inr ⟨c, h, h2⟩), h3⟩
    · rintro (h | ⟨c, h, h1⟩)
      · exact .inl h
      · rcases reach_succ.1 h with h2 | ⟨d, h2, h3⟩
        · exact .inr ⟨c, h2, reach_succ.2 (.inl h1)⟩
        · exact .inr ⟨d, h2, (reach_last n d b).2 (.inr ⟨c, h3, h1⟩)⟩
def cntB (f : Nat → Bool) : Nat := (if f 0 = true then 1 else 0) + (if f 1 = true then 1 else 0) + (if f 2 = true then 1 else 0) + (if f 3 = true then 1 else 0)
theorem cnt_le (f : Nat → Bool) : cntB f ≤ 4 := by
  unfold cntB
  cases f 0 <;> cases f 1 <;> cases f 2 <;> cases f 3 <;> decide
theorem cnt_lt {f g : Nat → Bool} (h : ∀ k, f k = true → g k = true) (hk : ∃ k, k < 4 ∧ f k = false ∧ g k = true) : cntB f < cntB g := by
  obtain ⟨k, hk, h1, h2⟩ := hk
  have h0 := h 0
  have ha := h 1
  have hb := h 2
  have hc := h 3
  have hd : k = 0 ∨ k = 1 ∨ k = 2 ∨ k = 3 := by omega
  unfold cntB
  rcases hd with rfl | rfl | rfl | rfl
  all_goals
    rw [h1, h2] at *
    revert h0 ha hb hc
    cases f 0 <;> cases f 1 <;> cases f 2 <;> cases f 3 <;> cases g 0 <;> cases g 1 <;> cases g 2 <;> cases g 3 <;> simp at *
theorem reach_stop (h : ∀ b, reachE E (n + 1) a b = true → reachE E n a b = true) : ∀ b, reachE E (n + 1 + 1) a b = true → reachE E (n + 1) a b = true := by
  intro b h1
  rcases (reach_last _ _ _).1 h1 with h2 | ⟨c, h2, h3⟩
  · exact (reach_last _ _ _).2 (.inl h2)
  · exact (reach_last _ _ _).2 (.inr ⟨c, h c h2, h3⟩)
theorem reach_fix (h : ∀ b, reachE E (n + 1) a b = true → reachE E n a b = true) : ∀ (m : Nat) (b : Nat), reachE E (n + m) a b = true → reachE E n a b = true
  | 0, _, h1 => h1
  | m + 1, b, h1 => by
    have hs : ∀ m, ∀ b, reachE E (n + m + 1) a b = true → reachE E (n + m) a b = true := by
      intro m
      induction m with
      | zero => exact h
      | succ m ih => exact reach_stop ih
    exact reach_fix h m b (hs m b h1)
theorem reach_lt (h : reachE E n a b = true) : b < 4 := (reach_wy _ _ _ h).lt.2
theorem reach_four (a : Nat) : ∀ b, reachE E 5 a b = true → reachE E 4 a b = true := by
  have st : ∀ n, (∀ b, reachE E (n + 1) a b = true → reachE E n a b = true) ∨ cntB (reachE E n a) < cntB (reachE E (n + 1) a) := by
    intro n
    by_cases h : ∃ b, reachE E (n + 1) a b = true ∧ reachE E n a b = false
    · obtain ⟨b, h1, h2⟩ := h
      exact .inr (cnt_lt (fun k hk => reach_up n a k hk) ⟨b, reach_lt h1, h2, h1⟩)
    · refine .inl fun b hb => ?_
      cases h2 : reachE E n a b with
      | true => rfl
      | false => exact absurd ⟨b, hb, h2⟩ h
  have fx : ∀ n, n ≤ 4 → (∀ b, reachE E (n + 1) a b = true → reachE E n a b = true) → ∀ b, reachE E 5 a b = true → reachE E 4 a b = true := by
    intro n hn h b hb
    have h5 := reach_fix h (5 - n) b (by rw [show n + (5 - n) = 5 by omega]; exact hb)
    have up : ∀ m, reachE E (n + m) a b = true := by
      intro m
      induction m with
      | zero => exact h5
      | succ m ih => exact reach_up _ _ _ ih
    have := up (4 - n)
    rwa [show n + (4 - n) = 4 by omega] at this
  rcases st 0 with h0 | h0
  · exact fx 0 (by omega) h0
  rcases st 1 with h1 | h1
  · exact fx 1 (by omega) h1
  rcases st 2 with h2 | h2
  · exact fx 2 (by omega) h2
  rcases st 3 with h3 | h3
  · exact fx 3 (by omega) h3
  rcases st 4 with h4 | h4
  · exact fx 4 (by omega) h4
  have := cnt_le (reachE E 5 a)
  simp only [Nat.zero_add, Nat.reduceAdd] at h0 h1 h2 h3 h4
  omega
theorem wy_reach (h : Wy E a b) : reachE E 4 a b = true := by
  induction h with
  | one h => exact reach_succ.2 (.inl h)
  | more h _ ih => exact reach_four _ _ (reach_succ.2 (.inr ⟨_, h, ih⟩))
theorem reach_iff : reachE E 4 a b = true ↔ Wy E a b := ⟨reach_wy 4 a b, wy_reach⟩
def cellS (W : Nat → Nat → Bool) (o i j : Nat) : Nat → Nat → Bool := fun a b => if a = i ∧ b = j then W i j || (W i o && W o j) else W a b
def runT (W : Nat → Nat → Bool) : Nat → Nat → Nat → Bool
  | 0 => W
  | n + 1 => cellS (runT W n) (n / 16) (n / 4 % 4) (n % 4)
theorem runT_up {W : Nat → Nat → Bool} (h : runT W n a b = true) : runT W (n + 1) a b = true := by
  show cellS (runT W n) _ _ _ a b = true
  unfold cellS
  split
  · rename_i h1
    obtain ⟨rfl, rfl⟩ := h1
    rw [h]; rfl
  · exact h
theorem runT_ups {W : Nat → Nat → Bool} (h : runT W n a b = true) : ∀ m, runT W (n + m) a b = true
  | 0 => h
  | m + 1 => runT_up (runT_ups h m)
theorem runT_sound : ∀ n a b, runT (adjE E) n a b = true → Wy E a b
  | 0, _, _, h => .one h
  | n + 1, a, b, h => by
    have h1 : cellS (runT (adjE E) n) (n / 16) (n / 4 % 4) (n % 4) a b = true := h
    unfold cellS at h1
    split at h1
    · rename_i h2
      obtain ⟨rfl, rfl⟩ := h2
      rw [Bool.or_eq_true, Bool.and_eq_true] at h1
      rcases h1 with h1 | ⟨h1, h2⟩
      · exact runT_sound n _ _ h1
      · exact (runT_sound n _ _ h1).trans (runT_sound n _ _ h2)
    · exact runT_sound n _ _ h1
inductive Wyk (E : List Ed) (k : Nat) : Nat → Nat → Prop
  | one {a b : Nat} : adjE E a b = true → Wyk E k a b
  | more {a b c : Nat} : adjE E a b = true → b < k → Wyk E k b c → Wyk E k a c
theorem Wyk.part {k : Nat} (h : Wyk E (k + 1) a b) : Wyk E k a b ∨ Wyk E k a k ∧ Wyk E k k b := by
  induction h with
  | one h => exact .inl (.one h)
  | @more a b c h hb _ ih =>
    rcases Nat.lt_or_ge b k with h1 | h1
    · rcases ih with h2 | ⟨h2, h3⟩
      · exact .inl (.more h h1 h2)
      · exact .inr ⟨.more h h1 h2, h3⟩
    · obtain rfl : b = k := by omega
      rcases ih with h2 | ⟨_, h3⟩
      · exact .inr ⟨.one h, h2⟩
      · exact .inr ⟨.one h, h3⟩
theorem Wy.wyk (h : Wy E a b) : Wyk E 4 a b := by
  induction h with
  | one h => exact .one h
  | more h _ ih => exact .more h (adj_iff.1 h).2.1 ih
theorem Wyk.wy {k : Nat} (h : Wyk E k a b) : Wy E a b := by
  induction h with
  | one h => exact .one h
  | more h _ _ ih => exact .more h ih
theorem runT_all : ∀ k, k ≤ 4 → ∀ a b, Wyk E k a b → runT (adjE E) (16 * k) a b = true
  | 0, _, a, b, h => by
    cases h with
    | one h => exact h
    | more _ h _ => omega
  | k + 1, hk, a, b, h => by
    obtain ⟨ha, hb⟩ := h.wy.lt
    have hn : 16 * (k + 1) = (16 * k + (4 * a + b)) + 1 + (15 - (4 * a + b)) := by omega
    rw [hn]
    refine runT_ups ?_ _
    rcases h.part with h1 | ⟨h1, h2⟩
    · exact runT_up (runT_ups (runT_all k (by omega) a b h1) _)
    · have e1 := runT_ups (runT_all k (by omega) a k h1) (4 * a + b)
      have e2 := runT_ups (runT_all k (by omega) k b h2) (4 * a + b)
      show cellS (runT (adjE E) (16 * k + (4 * a + b))) ((16 * k + (4 * a + b)) / 16) ((16 * k + (4 * a + b)) / 4 % 4) ((16 * k + (4 * a + b)) % 4) a b = true
      rw [show (16 * k + (4 * a + b)) / 16 = k by omega, show (16 * k + (4 * a + b)) / 4 % 4 = a by omega, show (16 * k + (4 * a + b)) % 4 = b by omega]
      unfold cellS
      rw [if_pos ⟨rfl, rfl⟩, e1, e2]
      simp
theorem runT_iff : runT (adjE E) 64 a b = true ↔ Wy E a b := ⟨runT_sound 64 a b, fun h => runT_all 4 (Nat.le_refl _) a b h.wyk⟩
theorem runT_eq : runT (adjE E) 64 a b = reachE E 4 a b := by
  rw [Bool.eq_iff_iff, runT_iff, reach_iff]
def vicP (l : List Int) (st : Int → Int) (v : Int) : Prop := v ∈ l ∧ ∀ k ∈ l, st k < st v ∨ st k = st v ∧ k ≤ v
theorem vic_uniq {l : List Int} {st : Int → Int} {v u : Int} (h : vicP l st v) (h1 : vicP l st u) : v = u := by
  have a := h.2 u h1.1
  have b := h1.2 v h.1
  omega
theorem vic_one (x : Int) (st : Int → Int) : vicP [x] st x := ⟨by simp, fun k hk => by
  obtain rfl : k = x := by simpa using hk
  exact .inr ⟨rfl, Int.le_refl _⟩⟩
theorem vic_more {l : List Int} {st : Int → Int} {v x : Int} (h : vicP l st v) (h1 : st v < st x ∨ st v = st x ∧ v ≤ x) : vicP (l ++ [x]) st x := by
  refine ⟨by simp, fun k hk => ?_⟩
  rcases List.mem_append.1 hk with hk | hk
  · have := h.2 k hk; omega
  · obtain rfl : k = x := by simpa using hk
    exact .inr ⟨rfl, Int.le_refl _⟩
theorem vic_stay {l : List Int} {st : Int → Int} {v x : Int} (h : vicP l st v) (h1 : st x < st v ∨ st x = st v ∧ x ≤ v) : vicP (l ++ [x]) st v := by
  refine ⟨by simp [h.1], fun k hk => ?_⟩
  rcases List.mem_append.1 hk with hk | hk
  · exact h.2 k hk
  · obtain rfl : k = x := by simpa using hk
    exact h1
end Go.Proofs.YtpdnehgboafgpaaDoor
namespace Go.Proofs.YtpdnehgboafgpaaDoor
open Go.ChangeShapes Go.WideShapes Go.ChangeAt Go.RowKit Go.Deep Go.Joins
def Elt.ed : Elt Ed where
  size := 2
  pos := by omega
  R _ _ x vs := vs = [.int .i64 x.1, .int .i64 x.2] ∧ W64 x.1 ∧ W64 x.2
  len := by rintro _ _ _ _ ⟨rfl, _⟩; rfl
  keep := by rintro _ _ _ _ _ h _; exact h
  weak := by rintro _ _ _ _ _ h _; exact h
  fit := by rintro _ _ _ _ h; exact h
  one := by
    rintro _ _ _ _ ⟨rfl, _⟩ u hu
    simp only [List.mem_cons, List.not_mem_nil, or_false] at hu
    rcases hu with rfl | rfl
    · rfl
    · rfl
theorem edP : LoP Tryd.prog 39 52 2 := ⟨⟨by kernel_rfl, by kernel_rfl⟩, .agg #[.int .i64 0, .int .i64 0], 16, by kernel_rfl, rfl, by omega⟩
section
variable {S S' : Nat → Prop} {w w' : World} {v : Value}
theorem RdL.ed {a : Option Addr} {n c : Nat} {l : List Ed} (h : RdL Elt.ed S w (.slice a n c) l) (r : Nat) (hr : r < l.length) :
    ∃ b off, a = some ⟨b, off, none⟩ ∧ S b ∧ w.cell? ⟨b, off + r * 2, none⟩ = some (.int .i64 l[r].1) ∧ w.cell? ⟨b, off + r * 2 + 1, none⟩ = some (.int .i64 l[r].2) ∧ W64 l[r].1 ∧ W64 l[r].2 := by
  obtain ⟨b, off, vs, rfl, hb, ⟨rfl, h1, h2⟩, hc⟩ := h.at r hr
  exact ⟨b, off, rfl, hb, hc 0 _ rfl, hc 1 _ rfl, h1, h2⟩
end
section
variable {P : Program} {t e : TypeId} {n sz : Nat} {o : Oper} {a : Act} {K : Act → World → Prop} {Q : Exit → Act → World → Prop} {w : World} {ops : Array Oper} {rest : List Oper}
theorem wp_ixA (hu : P.underlying t = some (.array n e)) (hi : (P.info? e).map (·.size) = some sz) {x i : Operand} {b off k r : Nat} {kk : IntKind} {j : Int} (ho : o.op = .indexAddr t x i) (hx : a.eval x = .pointer (some ⟨b, off, none⟩)) (hy : a.eval i = .int kk j) (hj : j = (k : Int)) (hk : k < n) (hr : r = off + k * sz)
    (h : K (a.put o.dst (.pointer (some ⟨b, r, none⟩))) w) : o.wp P a w K Q := by
  subst hj hr
  refine wp_run' ?_ h
  obtain ⟨inf, hinf, hsz⟩ : ∃ inf, P.info? e = some inf ∧ inf.size = sz := by
    cases h : P.info? e with
    | none => simp [h] at hi
    | some i => simp [h] at hi; exact ⟨i, rfl, hi⟩
  simp only [execOp, ho, hx, hy]
  simp [Instr.indexAt, run_underlying hu, asIntOf, Instr.sureAddr, hinf, hsz, sizeOf, typeInfo, go_sem, Addr.add]
  first
  | (rw [if_pos hk]; done)
  | (rw [if_pos hk]
     by_cases h0 : k = 0
     · subst h0; simp
     · simp)
end
section
variable {o : Oper} {a : Act} {K : Act → World → Prop} {Q : Exit → Act → World → Prop} {w : World} {ops : Array Oper} {rest : List Oper}
theorem run_ints2 (w : World) (m n : Int) : (Instr.buildSlice 34 2 #[(0, .int .i64 m), (1, .int .i64 n)]).run Tryd.prog w = .ok (.slice (some ⟨w.heap.size, 0, none⟩) 2 2) (w.alloc (.cells #[.int .i64 m, .int .i64 n] 3)) := by
  go_simp
theorem wp_ints2 {x y : Operand} {m n : Int} (ho : o.op = .buildSlice 34 2 #[(0, x), (1, y)]) (hx : a.eval x = .int .i64 m) (hy : a.eval y = .int .i64 n)
    (h : ∀ w', Below w.heap.size w w' → w'.heap[w.heap.size]? = some (.cells #[.int .i64 m, .int .i64 n] 3 (0, 0)) → K (a.put o.dst (.slice (some ⟨w.heap.size, 0, none⟩) 2 2)) w') : o.wp Tryd.prog a w K Q := by
  unfold Oper.wp execOp
  simp only [ho, hx, hy, Sem.run_bind, Sem.run_pure, Result.andThen_ok, List.map_toArray, List.map_cons, List.map_nil, run_ints2]
  exact h _ ((Below.refl _ _).alloc (Nat.le_refl _) _) (by simp only [World.alloc, Array.getElem?_push_size])
theorem rd_ints2 {S : Nat → Prop} {b : Nat} {m n : Int} (hrow : w.heap[b]? = some (.cells #[.int .i64 m, .int .i64 n] 3 (0, 0))) (hS : S b) (hm : W64 m) (hn : W64 n) : RdL Elt.int S w (.slice (some ⟨b, 0, none⟩) 2 2) [m, n] :=
  ⟨_, 2, rfl, Nat.le_refl _, by unfold maxLen; omega, .inr ⟨b, 0, rfl, hS, fun r h => by
    match r, h with
    | 0, _ => exact ⟨[.int .i64 m], ⟨rfl, hm⟩, fun j u hj => by
        obtain ⟨rfl, rfl⟩ : j = 0 ∧ u = .int .i64 m := by
          match j, hj with
          | 0, hj => exact ⟨rfl, by simpa using hj.symm⟩
        simp [World.cell?, hrow, Elt.int]⟩
    | 1, _ => exact ⟨[.int .i64 n], ⟨rfl, hn⟩, fun j u hj => by
        obtain ⟨rfl, rfl⟩ : j = 0 ∧ u = .int .i64 n := by
          match j, hj with
          | 0, hj => exact ⟨rfl, by simpa using hj.symm⟩
        simp [World.cell?, hrow, Elt.int]⟩⟩⟩
end
end Go.Proofs.YtpdnehgboafgpaaDoor
namespace Go.Proofs.YtpdnehgboafgpaaDoor
open Go.ChangeShapes Go.WideShapes Go.ChangeAt Go.RowKit Go.Deep Go.Joins
set_option maxRecDepth 4000 in
theorem opens_ed : Opens Tryd.prog 52 Elt.ed := by
  intro H enc w base held fuel cs x h
  obtain ⟨xs, m, _, _, hl, hn, hi⟩ := DataW.trod_array Tryd.underlying52 h
  have hc : cs.length = 2 := hl.trans (by kernel_rfl)
  have hce : Tryd.prog.cellsOf 3 = 1 := by kernel_rfl
  match cs, hc, xs, hn with
  | [u, v], _, [y0, y1], _ =>
    have h0 : DataW.trod enc Tryd.prog w base (fun _ => true) held m 3 [u] = some y0 := by have := hi 0 (by omega); rw [hce] at this; simpa using this
    have h1 : DataW.trod enc Tryd.prog w base (fun _ => true) held m 3 [v] = some y1 := by have := hi 1 (by omega); rw [hce] at this; simpa using this
    obtain ⟨a, ha, _, hw⟩ := DataW.trod_int (by kernel_rfl : Tryd.prog.underlying 3 = some (.int .i64)) h0
    obtain ⟨b, hb, _, hw2⟩ := DataW.trod_int (by kernel_rfl : Tryd.prog.underlying 3 = some (.int .i64)) h1
    cases ha; cases hb
    exact ⟨(a, b), rfl, w64w hw, w64w hw2⟩
theorem opens_eds : Opens Tryd.prog 39 (Elt.list Elt.ed) := Opens.list (by kernel_rfl) (by kernel_rfl) opens_ed
def RdI4 (_ : Nat → Prop) (_ : World) (v : Value) (s : Nat → Int) : Prop := v = .agg #[.int .i64 (s 0), .int .i64 (s 1), .int .i64 (s 2), .int .i64 (s 3)]
set_option maxRecDepth 4000 in
theorem open_i4 {H : Type} {enc : TypeId × Value → H} {w : World} {base : Nat} {held : Bool} {fuel : Nat} {cs : Array Value} {x : DataW H × List MemPlace} (h : DataW.trod enc Tryd.prog w base (fun _ => true) held fuel 40 (Value.agg cs).cells.toList = some x) : ∃ d, RdI4 (· < w.heap.size) w (.agg cs) d := by
  have e0 : (Value.agg cs).cells.toList = cs.toList := by simp [Value.cells]
  rw [e0] at h
  obtain ⟨xs, m, _, _, hl, hn, hi⟩ := DataW.trod_array Tryd.underlying40 h
  have hc : cs.toList.length = 4 := hl.trans (by kernel_rfl)
  have hce : Tryd.prog.cellsOf 3 = 1 := by kernel_rfl
  obtain ⟨u0, u1, u2, u3, rfl⟩ := array4 (show cs.size = 4 by simpa using hc)
  have key : ∀ i (u : Value), i < 4 → [u0, u1, u2, u3][i]? = some u → ∃ a, u = .int .i64 a := by
    intro i u h4 hu
    obtain ⟨y, hy⟩ : ∃ y, xs[i]? = some y := ⟨_, List.getElem?_eq_getElem (by omega)⟩
    have h0 := hi i h4
    rw [hce, hy] at h0
    have e : List.take 1 (List.drop (i * 1) [u0, u1, u2, u3]) = [u] := by
      rcases i with _ | _ | _ | _ | i
      all_goals first | omega | (obtain rfl := Option.some.inj hu; rfl)
    have h0' : DataW.trod enc Tryd.prog w base (fun _ => true) held m 3 [u] = some y := by
      rw [← e]; simpa using h0
    obtain ⟨a, ha, _⟩ := DataW.trod_int (by kernel_rfl : Tryd.prog.underlying 3 = some (.int .i64)) h0'
    exact ⟨a, by simpa using ha⟩
  obtain ⟨a0, rfl⟩ := key 0 u0 (by omega) rfl
  obtain ⟨a1, rfl⟩ := key 1 u1 (by omega) rfl
  obtain ⟨a2, rfl⟩ := key 2 u2 (by omega) rfl
  obtain ⟨a3, rfl⟩ := key 3 u3 (by omega) rfl
  exact ⟨fun k => match k with | 0 => a0 | 1 => a1 | 2 => a2 | _ => a3, rfl⟩
theorem okWide_arr {P : Program} {w : World} {r : Reach} {base : Nat} {t e : TypeId} {n : Nat} {v : Value} (ht : P.underlying t = some (.array n e)) (h : Value.okWide P w r base t v) : ∃ cs, v = .agg cs ∧ cs.size = P.cellsOf t := by
  simp only [Value.okWide, ht] at h
  obtain ⟨cs, h1, h2, _⟩ := h
  exact ⟨cs, h1, h2⟩
end Go.Proofs.YtpdnehgboafgpaaDoor
namespace Go.Proofs.YtpdnehgboafgpaaDoor
open Go.RowKit
def preB (ops : Array Oper) (m : Nat) (pre : Nat → Bool) : Bool :=
  (List.range ops.size).all fun i => !pre i || (decide (m < ops.size) && (List.range ops.size).any fun j => decide (i < j) && (j == m || pre j) && (ops[j]?).any fun o => o.after.any fun e => e.on == i && Region.binds .any e)
theorem preB_get {ops : Array Oper} {m : Nat} {pre : Nat → Bool} (h : preB ops m pre = true) {i : Nat} (hi : i < ops.size) (hp : pre i = true) :
    m < ops.size ∧ ∃ j o, i < j ∧ j < ops.size ∧ (j = m ∨ pre j = true) ∧ ops[j]? = some o ∧ ∃ e ∈ o.after, e.on = i ∧ Region.binds .any e = true := by
  simp only [preB, List.all_eq_true, List.mem_range] at h
  have h1 := h i hi
  simp only [hp, Bool.not_true, Bool.false_or, Bool.and_eq_true, decide_eq_true_eq, List.any_eq_true, List.mem_range, Bool.or_eq_true, beq_iff_eq] at h1
  obtain ⟨hm, j, hj, ⟨hij, hjm⟩, ho⟩ := h1
  cases hoj : ops[j]? with
  | none => rw [hoj] at ho; simp at ho
  | some o =>
    rw [hoj] at ho
    simp only [Option.any_some, Array.any_eq_true', Bool.and_eq_true, beq_iff_eq] at ho
    exact ⟨hm, j, o, hij, hj, hjm, hoj, ho⟩
theorem preB_lt {ops : Array Oper} {m : Nat} {pre : Nat → Bool} (h : preB ops m pre = true) {i : Nat} (hi : i < ops.size) (hp : pre i = true) : m < ops.size := (preB_get h hi hp).1
theorem pre_listed {ops : Array Oper} {m : Nat} {pre : Nat → Bool} {listed : Array Bool} (h : preB ops m pre = true)
    (hcl : ∀ j o, ops[j]? = some o → listed.getD j true = true → ∀ e ∈ o.after, Region.binds .any e = true → listed.getD e.on true = true) (hm : listed.getD m true = true) : ∀ i, i < ops.size → pre i = true → listed.getD i true = true := by
  have key : ∀ (d i : Nat), ops.size - i ≤ d → i < ops.size → pre i = true → listed.getD i true = true := by
    intro d
    induction d with
    | zero => intro i hd hi _; omega
    | succ d ih =>
      intro i hd hi hp
      obtain ⟨_, j, o, hij, hj, hjm, hoj, e, he, rfl, hbn⟩ := preB_get h hi hp
      refine hcl j o hoj ?_ e he hbn
      rcases hjm with rfl | hpj
      · exact hm
      · exact ih j (by omega) hj hpj
  exact fun i hi hp => key _ i (Nat.le_refl _) hi hp
def postB (ops : Array Oper) (m : Nat) (post : Nat → Bool) : Bool :=
  (List.range ops.size).all fun i => !post i || (ops[i]?).any fun o => o.after.any fun e => Region.binds .any e && (e.on == m || (decide (e.on < i) && post e.on))
theorem post_listed {ops : Array Oper} {m : Nat} {post : Nat → Bool} {listed : Array Bool} (h : postB ops m post = true)
    (hcl : ∀ j o, ops[j]? = some o → listed.getD j true = true → ∀ e ∈ o.after, Region.binds .any e = true → listed.getD e.on true = true) : ∀ i, i < ops.size → post i = true → listed.getD i true = true → listed.getD m true = true := by
  intro i
  induction i using Nat.strongRecOn with
  | ind i ih =>
    intro hi hp hl
    simp only [postB, List.all_eq_true, List.mem_range] at h
    have h1 := h i hi
    simp only [hp, Bool.not_true, Bool.false_or] at h1
    cases ho : ops[i]? with
    | none => rw [ho] at h1; simp at h1
    | some o =>
      rw [ho] at h1
      simp only [Option.any_some, Array.any_eq_true', Bool.and_eq_true, Bool.or_eq_true, beq_iff_eq, decide_eq_true_eq] at h1
      obtain ⟨e, he, hbn, hm | ⟨hlt, hpe⟩⟩ := h1
      · rw [← hm]; exact hcl i o ho hl e he hbn
      · exact ih e.on hlt (by omega) hpe (hcl i o ho hl e he hbn)
theorem post_none (ops : Array Oper) (m : Nat) : postB ops m (fun _ => false) = true := by simp [postB]
section
variable {P : Program} {Q : Exit → Act → World → Prop}
def SoftOpM (P : Program) (Q : Exit → Act → World → Prop) (ops : Array Oper) (a : Act) (K : Nat → World → World → Prop) (R R0 : World → Prop) (m : Nat) (pre post drop : Nat → Bool) (G : (Nat → Value) → Nat → World → Value → Prop) (i : Nat) (o : Oper) : Prop :=
  ∀ (A : Act) (vs : Nat → Value) (w' : World), (∀ t, slotIx ops.toList 0 t = none → A.eval (.tmp t) = a.eval (.tmp t)) → (∀ t j, t < a.tmps.size → slotIx ops.toList 0 t = some j → A.eval (.tmp t) = vs j) → R w' → (pre i = true ∨ i = m → R0 w') → (pre i = true ∨ i = m → ∀ j d, post j = true → (ops[j]?).bind (·.dst) = some d → vs j = a.eval (.tmp d)) →
    (∀ e ∈ o.after, (Region.binds .any e && (pre i || i == m || !drop e.on)) = true → G vs e.on w' (vs e.on)) → o.wp P A w' (fun a2 w2 => ∃ v, a2 = A.put o.dst v ∧ G vs i w2 v ∧ K i w' w2) Q
def GdOpM (P : Program) (Q : Exit → Act → World → Prop) (ops : Array Oper) (a : Act) (K : Nat → World → World → Prop) (R R0 : World → Prop) (m : Nat) (pre post drop : Nat → Bool) (G : (Nat → Value) → Nat → World → Value → Prop) (i : Nat) (o : Oper) : Prop :=
  match o.guard with
  | none => SoftOpM P Q ops a K R R0 m pre post drop G i o
  | some (j, b) => (∃ oj d, ops[j]? = some oj ∧ oj.dst = some d ∧ d < a.tmps.size) ∧ (o.after.any fun e => e.on == j && (Region.binds .any e && !drop e.on)) = true ∧
      (((∀ vs w v, G vs j w v → v = .bool b) ∧ SoftOpM P Q ops a K R R0 m pre post drop G i o) ∨ ((∀ vs w v, G vs j w v → v = .bool (!b) ∨ v = undef) ∧ ∀ vs w, G vs i w undef))
theorem GdOpM.plain {ops : Array Oper} {a : Act} {K : Nat → World → World → Prop} {R R0 : World → Prop} {m : Nat} {pre post drop : Nat → Bool} {G : (Nat → Value) → Nat → World → Value → Prop} {i : Nat} {o : Oper} (h : o.guard = none) (h2 : SoftOpM P Q ops a K R R0 m pre post drop G i o) : GdOpM P Q ops a K R R0 m pre post drop G i o := by
  unfold GdOpM; rw [h]; exact h2
theorem GdOpM.taken {ops : Array Oper} {a : Act} {K : Nat → World → World → Prop} {R R0 : World → Prop} {m : Nat} {pre post drop : Nat → Bool} {G : (Nat → Value) → Nat → World → Value → Prop} {i : Nat} {o : Oper} {j : Nat} {b : Bool} (h : o.guard = some (j, b)) (h1 : ∃ oj d, ops[j]? = some oj ∧ oj.dst = some d ∧ d < a.tmps.size)
    (h2 : (o.after.any fun e => e.on == j && (Region.binds .any e && !drop e.on)) = true) (h3 : ∀ vs w v, G vs j w v → v = .bool b) (h4 : SoftOpM P Q ops a K R R0 m pre post drop G i o) : GdOpM P Q ops a K R R0 m pre post drop G i o := by
  unfold GdOpM; rw [h]; exact ⟨h1, h2, .inl ⟨h3, h4⟩⟩
theorem GdOpM.left {ops : Array Oper} {a : Act} {K : Nat → World → World → Prop} {R R0 : World → Prop} {m : Nat} {pre post drop : Nat → Bool} {G : (Nat → Value) → Nat → World → Value → Prop} {i : Nat} {o : Oper} {j : Nat} {b : Bool} (h : o.guard = some (j, b)) (h1 : ∃ oj d, ops[j]? = some oj ∧ oj.dst = some d ∧ d < a.tmps.size)
    (h2 : (o.after.any fun e => e.on == j && (Region.binds .any e && !drop e.on)) = true) (h3 : ∀ vs w v, G vs j w v → v = .bool (!b) ∨ v = undef) (h4 : ∀ vs w, G vs i w undef) : GdOpM P Q ops a K R R0 m pre post drop G i o := by
  unfold GdOpM; rw [h]; exact ⟨h1, h2, .inr ⟨h3, h4⟩⟩
def GdAllM (P : Program) (Q : Exit → Act → World → Prop) (ops : Array Oper) (a : Act) (K : Nat → World → World → Prop) (R R0 : World → Prop) (m : Nat) (pre post drop : Nat → Bool) (G : (Nat → Value) → Nat → World → Value → Prop) : Nat → List Oper → Prop
  | _, [] => True
  | i, o :: rest => GdOpM P Q ops a K R R0 m pre post drop G i o ∧ GdAllM P Q ops a K R R0 m pre post drop G (i + 1) rest
theorem GdAllM.get {ops : Array Oper} {a : Act} {K : Nat → World → World → Prop} {R R0 : World → Prop} {m : Nat} {pre post drop : Nat → Bool} {G : (Nat → Value) → Nat → World → Value → Prop} : ∀ (l : List Oper) (k j : Nat) (o : Oper), GdAllM P Q ops a K R R0 m pre post drop G k l → l[j]? = some o → GdOpM P Q ops a K R R0 m pre post drop G (k + j) o
  | [], _, _, _, _, h => by simp at h
  | o' :: rest, k, 0, o, h, hj => by obtain rfl : o' = o := by simpa using hj
                                     exact h.1
  | o' :: rest, k, j + 1, o, h, hj => by rw [show k + (j + 1) = k + 1 + j by omega]; exact GdAllM.get rest (k + 1) j o h.2 (by simpa using hj)
theorem wp_region_m {id : Nat} {ops : Array Oper} {a : Act} {w : World} (hm : P.follows .mixedOrders = true) (hs : gdB ops = true) (K : Nat → World → World → Prop) (R R0 : World → Prop) (m : Nat) (pre post drop : Nat → Bool) (G : (Nat → Value) → Nat → World → Value → Prop)
    (hpre : preB ops m pre = true) (hKr : ∀ i w, K i w w) (hR0 : R { w with drawn := w.drawn + 1 }) (hR00 : R0 { w with drawn := w.drawn + 1 }) (hRs : ∀ i A B, R A → K i A B → R B) (hR0s : ∀ i A B, i ≠ m → post i = false → R0 A → K i A B → R0 B) (hpost : postB ops m post = true) (hst : ∀ vs i j w v w', i ≠ j → (j = m → post i = false ∧ drop i = false) → G vs i w v → K j w w' → G vs i w' v)
    (hlnk : ∀ (vs us : Nat → Value) i w v, (∀ o, ops[i]? = some o → ∀ e ∈ o.after, Region.binds .any e = true → vs e.on = us e.on) → G vs i w v → G us i w v) (hop : GdAllM P Q ops a K R R0 m pre post drop G 0 ops.toList)
    (hend : ∀ (vs : Nat → Value) (w' : World), R w' → (∀ i, i < ops.size → drop i = false → G vs i w' (vs i)) → Q .normal (putAll a ops.toList vs 0) w') : (Code.region id ops true).wp P Q a w := by
  refine wp_region_any hm ?_
  have hnd : (ops.toList.filterMap (·.dst)).Nodup := by simp only [gdB, slotsB, Bool.and_eq_true, decide_eq_true_eq] at hs; exact hs.2
  have main : ∀ (fuel : Nat) (listed : Array Bool) (vs : Nat → Value) (w' : World), listed.size = ops.size → (unlisted ops.size listed).length ≤ fuel → R w' →
      (∀ i, i < ops.size → listed.getD i true = true → (drop i = true → listed.getD m true = false) → G vs i w' (vs i)) → (∀ i o, ops[i]? = some o → listed.getD i true = true → ∀ e ∈ o.after, Region.binds .any e = true → e.on < ops.size ∧ listed.getD e.on true = true) → (m < ops.size → listed.getD m true = false → R0 w') → (∀ j, j < ops.size → listed.getD j true = false → ∀ d, (ops[j]?).bind (·.dst) = some d → vs j = a.eval (.tmp d)) → wpAny P .any ops Q fuel listed (putAll a ops.toList vs 0) w' := by
    intro fuel
    induction fuel with
    | zero =>
      intro listed vs w' hsz hu hb hG hcl hR0m hun
      have hall : ∀ i, i < ops.size → listed.getD i true = true := by
        intro i hi
        cases hl : listed.getD i true with
        | true => rfl
        | false =>
          have : i ∈ unlisted ops.size listed := List.mem_filter.2 ⟨List.mem_range.2 hi, by simp [hl]⟩
          rw [List.eq_nil_of_length_eq_zero (Nat.le_zero.1 hu)] at this
          cases this
      refine ⟨?_, hend vs w' hb (fun i hi hdi => hG i hi (hall i hi) (fun h => by rw [hdi] at h; cases h))⟩
      unfold Region.ready
      rw [List.filter_eq_nil_iff]
      intro i hi
      simp [hall i (List.mem_range.1 hi)]
    | succ fuel ih =>
      intro listed vs w' hsz hu hb hG hcl hR0m hun
      refine ⟨fun hr => hend vs w' hb (fun i hi hdi => hG i hi (all_listed_gd hs hr i hi) (fun h => by rw [hdi] at h; cases h)), fun i hi => ?_⟩
      unfold Region.ready at hi
      obtain ⟨hi1, hi2⟩ := List.mem_filter.1 hi
      have hlt := List.mem_range.1 hi1
      rw [Bool.and_eq_true] at hi2
      obtain ⟨hl, hdep⟩ := hi2
      have hl' : listed.getD i true = false := by simpa using hl
      obtain ⟨o, ho⟩ : ∃ o, ops[i]? = some o := ⟨_, Array.getElem?_eq_getElem hlt⟩
      rw [ho] at hdep
      simp only [Option.map_some, Option.getD_some] at hdep
      rw [Array.all_eq_true'] at hdep
      have hgop := GdAllM.get ops.toList 0 i o hop (by rw [Array.getElem?_toList]; exact ho)
      rw [Nat.zero_add] at hgop
      have hdepG : ∀ e ∈ o.after, Region.binds .any e = true → e.on < ops.size ∧ listed.getD e.on true = true ∧ ((pre i = true ∨ i = m ∨ drop e.on = false) → G vs e.on w' (vs e.on)) := by
        intro e he hbn
        have h := hdep e he
        rw [hbn] at h
        simp only [Bool.not_true, Bool.false_or] at h
        have hin : e.on < listed.size := by
          rcases Nat.lt_or_ge e.on listed.size with h' | h'
          · exact h'
          · simp [Array.getD_eq_getD_getElem?, Array.getElem?_eq_none_iff.2 h'] at h
        have hl2 : listed.getD e.on true = true := by
          simp only [Array.getD_eq_getD_getElem?, Array.getElem?_eq_getElem hin, Option.getD_some] at h ⊢
          exact h
        refine ⟨by omega, hl2, fun hpm => hG e.on (by omega) hl2 (fun hde => ?_)⟩
        cases hlm : listed.getD m true with
        | false => rfl
        | true =>
          rcases hpm with h3 | rfl | h3
          · have := pre_listed hpre (fun j oj hoj hlj e he hbn => (hcl j oj hoj hlj e he hbn).2) hlm i hlt h3
            rw [hl'] at this
            cases this
          · rw [hl'] at hlm; cases hlm
          · rw [hde] at h3; cases h3
      have hR0i : pre i = true ∨ i = m → R0 w' := by
        rintro (h | rfl)
        · refine hR0m (preB_lt hpre hlt h) ?_
          cases hlm : listed.getD m true with
          | false => rfl
          | true =>
            have := pre_listed hpre (fun j oj hoj hlj e he hbn => (hcl j oj hoj hlj e he hbn).2) hlm i hlt h
            rw [hl'] at this
            cases this
        · exact hR0m hlt hl'
      have hUi : pre i = true ∨ i = m → ∀ j d, post j = true → (ops[j]?).bind (·.dst) = some d → vs j = a.eval (.tmp d) := by
        intro h j d hpj hd
        have hjs : j < ops.size := by
          rcases Nat.lt_or_ge j ops.size with h' | h'
          · exact h'
          · rw [Array.getElem?_eq_none_iff.2 h'] at hd; cases hd
        refine hun j hjs ?_ d hd
        cases hlj : listed.getD j true with
        | false => rfl
        | true =>
          have hml := post_listed hpost (fun j2 oj hoj hlj2 e he hbn => (hcl j2 oj hoj hlj2 e he hbn).2) j hjs hpj hlj
          rcases h with h | rfl
          · have := pre_listed hpre (fun j oj hoj hlj e he hbn => (hcl j oj hoj hlj e he hbn).2) hml i hlt h
            rw [hl'] at this
            cases this
          · rw [hl'] at hml; cases hml
      have step : ∀ (v : Value) (w2 : World), K i w' w2 → G vs i w2 v → wpAny P .any ops Q fuel (listed.setIfInBounds i true) ((putAll a ops.toList vs 0).put o.dst v) w2 := by
        intro v w2 hb2 hg
        rw [putAll_put ops.toList a vs 0 i o v hnd (by rw [Array.getElem?_toList]; exact ho), Nat.zero_add]
        have hne : ∀ e : Edge, listed.getD e.on true = true → e.on ≠ i := fun e h e2 => by rw [e2, hl'] at h; cases h
        have hkeep : ∀ j, listed.getD j true = true → (listed.setIfInBounds i true).getD j true = true := fun j h => by
          by_cases hji : j = i
          · subst hji; rw [hl'] at h; cases h
          · simp only [Array.getD_eq_getD_getElem?, Array.getElem?_setIfInBounds_ne (Ne.symm hji)] at h ⊢; exact h
        have hback : ∀ j, j ≠ i → (listed.setIfInBounds i true).getD j true = true → listed.getD j true = true := fun j hji h => by
          simp only [Array.getD_eq_getD_getElem?, Array.getElem?_setIfInBounds_ne (Ne.symm hji)] at h ⊢; exact h
        refine ih _ _ _ (by simp [hsz]) (by have := unlisted_set hsz hlt hl'; omega) (hRs i _ _ hb hb2) (fun j hj hlj hdj => ?_) (fun j oj hoj hlj e he hbn => ?_) (fun hm1 hm2 => ?_) (fun j hj hlj d hd => ?_)
        · by_cases hji : j = i
          · subst hji
            refine hlnk vs _ j w2 _ (fun o2 ho2 e he hbn => ?_) (by simpa [upd] using hg)
            obtain rfl : o = o2 := by rw [ho] at ho2; injection ho2
            have := hne e (hdepG e he hbn).2.1
            simp [upd, this]
          · have hlj' := hback j hji hlj
            have hv : upd vs i v j = vs j := by simp [upd, hji]
            rw [hv]
            refine hlnk vs _ j w2 _ (fun o2 ho2 e he hbn => ?_) (hst vs j i w' _ w2 hji (fun him => ?_) (hG j hj hlj' (fun hdt => ?_)) hb2)
            rotate_left
            · constructor
              · cases hpj : post j with
                | false => rfl
                | true =>
                  have := post_listed hpost (fun j2 oj hoj hlj2 e he hbn => (hcl j2 oj hoj hlj2 e he hbn).2) j hj hpj hlj'
                  rw [← him, hl'] at this
                  cases this
              · cases hdr : drop j with
                | false => rfl
                | true =>
                  have := hdj hdr
                  rw [← him] at this
                  simp only [Array.getD_eq_getD_getElem?, Array.getElem?_setIfInBounds_self_of_lt (by omega : i < listed.size)] at this
                  cases this
            · have := hdj hdt
              by_cases him : i = m
              · rw [← him]; exact hl'
              · simp only [Array.getD_eq_getD_getElem?, Array.getElem?_setIfInBounds_ne him] at this ⊢
                exact this
            have := hne e (hcl j o2 ho2 hlj' e he hbn).2
            simp [upd, this]
        · by_cases hji : j = i
          · subst hji
            obtain rfl : o = oj := by rw [ho] at hoj; injection hoj
            exact ⟨(hdepG e he hbn).1, hkeep _ (hdepG e he hbn).2.1⟩
          · have := hcl j oj hoj (hback j hji hlj) e he hbn
            exact ⟨this.1, hkeep _ this.2⟩
        · have him : i ≠ m := by
            intro e
            subst e
            simp only [Array.getD_eq_getD_getElem?, Array.getElem?_setIfInBounds_self_of_lt (by omega : i < listed.size)] at hm2
            cases hm2
          have hml : listed.getD m true = false := by
            simp only [Array.getD_eq_getD_getElem?, Array.getElem?_setIfInBounds_ne him] at hm2 ⊢
            exact hm2
          have hpi : post i = false := by
            cases hpi : post i with
            | false => rfl
            | true =>
              have h := hpost
              simp only [postB, List.all_eq_true, List.mem_range] at h
              have h1 := h i hlt
              simp only [hpi, Bool.not_true, Bool.false_or, ho, Option.any_some, Array.any_eq_true', Bool.and_eq_true, Bool.or_eq_true, beq_iff_eq, decide_eq_true_eq] at h1
              obtain ⟨e, he, hbn, h2 | ⟨_, hpe⟩⟩ := h1
              · have := (hdepG e he hbn).2.1
                rw [h2, hml] at this
                cases this
              · have := post_listed hpost (fun j2 oj hoj hlj2 e he hbn => (hcl j2 oj hoj hlj2 e he hbn).2) e.on (hdepG e he hbn).1 hpe (hdepG e he hbn).2.1
                rw [hml] at this
                cases this
          exact hR0s i _ _ him hpi (hR0m hm1 hml) hb2
        · have hji : j ≠ i := by
            intro e
            subst e
            simp only [Array.getD_eq_getD_getElem?, Array.getElem?_setIfInBounds_self_of_lt (by omega : j < listed.size)] at hlj
            cases hlj
          rw [show upd vs i v j = vs j by simp [upd, hji]]
          refine hun j hj ?_ d hd
          simp only [Array.getD_eq_getD_getElem?, Array.getElem?_setIfInBounds_ne (Ne.symm hji)] at hlj ⊢
          exact hlj
      have run : SoftOpM P Q ops a K R R0 m pre post drop G i o → o.wp P (putAll a ops.toList vs 0) w' (wpAny P .any ops Q fuel (listed.setIfInBounds i true)) Q := by
        intro hsoft
        have hwp := hsoft (putAll a ops.toList vs 0) vs w' (fun t h => eval_putAll_out _ _ _ _ _ h) (fun t j ht h => eval_putAll_in _ _ _ _ _ _ hnd ht h) hb hR0i hUi (fun e he hbn => by
          simp only [Bool.and_eq_true, Bool.or_eq_true, beq_iff_eq, Bool.not_eq_true'] at hbn
          exact (hdepG e he hbn.1).2.2 (hbn.2.elim (fun h => h.elim .inl (fun h => .inr (.inl h))) (fun h => .inr (.inr h))))
        refine Oper.wp_mono ?_ hwp
        rintro a2 w2 ⟨v, rfl, hg, hb2⟩
        exact step v w2 hb2 hg
      unfold wpOp
      simp only [ho]
      unfold GdOpM at hgop
      cases hgd : o.guard with
      | none =>
        rw [hgd] at hgop
        simp only [Region.wanted, hgd, if_true]
        exact .inl (run hgop)
      | some p =>
        obtain ⟨j, b⟩ := p
        rw [hgd] at hgop
        obtain ⟨⟨oj, d, hoj, hd, hdlt⟩, hany, hcase⟩ := hgop
        rw [Array.any_eq_true'] at hany
        obtain ⟨e, he, hej⟩ := hany
        simp only [Bool.and_eq_true, beq_iff_eq, Bool.not_eq_true'] at hej
        obtain ⟨rfl, hbn, hde⟩ := hej
        have hgj := (hdepG e he hbn).2.2 (.inr (.inr hde))
        have hix : slotIx ops.toList 0 d = some e.on := by
          have := slotIx_at ops.toList 0 e.on oj d hnd (by rw [Array.getElem?_toList]; exact hoj) hd
          simpa using this
        have hev := eval_putAll_in ops.toList a vs 0 d e.on hnd hdlt hix
        have hy : ∀ c, vs e.on = .bool c → yielded ops (putAll a ops.toList vs 0).tmps e.on = some c := by
          intro c hc
          have h1 : (putAll a ops.toList vs 0).tmps.getD d undef = .bool c := by
            have h2 : (putAll a ops.toList vs 0).eval (.tmp d) = (putAll a ops.toList vs 0).tmps.getD d undef := rfl
            rw [← h2, hev]; exact hc
          rw [Array.getD_eq_getD_getElem?] at h1
          cases hx : (putAll a ops.toList vs 0).tmps[d]? with
          | none => rw [hx] at h1; exact absurd h1 (by simp [undef])
          | some u =>
            rw [hx] at h1
            simp only [Option.getD_some] at h1
            simp [yielded, hoj, hd, hx, h1]
        rcases hcase with ⟨hv, hsoft⟩ | ⟨hv, hun⟩
        · have hyes := hy b (hv _ _ _ hgj)
          simp only [Region.wanted, hgd, hyes, beq_self_eq_true, if_true]
          exact .inl (run hsoft)
        · have hw0 : Region.wanted o (yielded ops (putAll a ops.toList vs 0).tmps) = false := by
            rcases hv _ _ _ hgj with hv | hv
            · simp only [Region.wanted, hgd, hy (!b) hv]; cases b <;> rfl
            · have h1 : (putAll a ops.toList vs 0).tmps.getD d undef = undef := by
                have h2 : (putAll a ops.toList vs 0).eval (.tmp d) = (putAll a ops.toList vs 0).tmps.getD d undef := rfl
                rw [← h2, hev]; exact hv
              have h3 : yielded ops (putAll a ops.toList vs 0).tmps e.on = none := by
                rw [Array.getD_eq_getD_getElem?] at h1
                cases hx : (putAll a ops.toList vs 0).tmps[d]? with
                | none => simp [yielded, hoj, hd, hx]
                | some u =>
                  rw [hx] at h1
                  simp only [Option.getD_some] at h1
                  subst h1
                  simp [yielded, hoj, hd, hx, undef]
              simp only [Region.wanted, hgd, h3]; cases b <;> rfl
          simp only [hw0]
          exact step undef w' (hKr i w') (hun vs w')
  have h0 := main ops.size (Array.replicate ops.size false) (fun i => ((ops[i]?).bind (·.dst)).elim undef (fun d => a.tmps.getD d undef)) { w with drawn := w.drawn + 1 } (by simp)
    (by have := List.length_filter_le (fun i => !(Array.replicate ops.size false).getD i true) (List.range ops.size); simpa [unlisted] using this) hR0
    (fun i hi h => by simp [Array.getD_eq_getD_getElem?, hi] at h)
    (fun i o ho h => by
      have hi : i < ops.size := (Array.getElem?_eq_some_iff.1 ho).1
      simp [Array.getD_eq_getD_getElem?, hi] at h) (fun _ _ => hR00)
    (fun j hj _ d hd => by simp only [hd, Option.elim_some]; rfl)
  rw [putAll_orig ops.toList a _ 0 (fun j o d hj hd => by
    rw [Array.getElem?_toList] at hj
    simp [hj, hd])] at h0
  exact h0
end
abbrev SGm (Km : World → World → Prop) := { G : World → Value → Prop // (∀ w v w', G w v → Below w.heap.size w w' → G w' v) ∧ (∀ w v w', G w v → Km w w' → G w' v) }
section
variable {Km : World → World → Prop}
def mEq (u : Value) : SGm Km := ⟨fun _ v => v = u, fun _ _ _ h _ => h, fun _ _ _ h _ => h⟩
def mAny : SGm Km := ⟨fun _ _ => True, fun _ _ _ h _ => h, fun _ _ _ h _ => h⟩
def km (Km : World → World → Prop) (m i : Nat) (A B : World) : Prop := if i = m then Km A B else Below A.heap.size A B
def gm (Gs : List (SGm Km)) (m : Nat) (Gm : SG) (_ : Nat → Value) (i : Nat) : World → Value → Prop := if i = m then Gm.1 else (Gs.getD i mAny).1
end
section
variable {P : Program} {Q : Exit → Act → World → Prop}
theorem wp_region_sink {id : Nat} {ops : Array Oper} {a : Act} {w : World} (hm : P.follows .mixedOrders = true) (hs : gdB ops = true) (Km : World → World → Prop) (m : Nat) (pre : Nat → Bool) (hpre : preB ops m pre = true) (R : World → Prop) (hR : ∀ A, Below w.heap.size w A → R A)
    (hKr : ∀ w, Km w w) (hRb : ∀ A B, R A → Below A.heap.size A B → R B) (hRk : ∀ A B, R A → Km A B → R B) (Gs : List (SGm Km)) (Gm : SG)
    (hop : GdAllM P Q ops a (km Km m) R (Below w.heap.size w) m pre (fun _ => false) (fun _ => false) (gm Gs m Gm) 0 ops.toList)
    (hend : ∀ (vs : Nat → Value) (w' : World), R w' → (∀ i, i < ops.size → gm Gs m Gm vs i w' (vs i)) → Q .normal (putAll a ops.toList vs 0) w') : (Code.region id ops true).wp P Q a w := by
  refine wp_region_m hm hs (km Km m) R (Below w.heap.size w) m pre (fun _ => false) (fun _ => false) (gm Gs m Gm) hpre ?_ (hR _ ⟨rfl, rfl, rfl, Nat.le_refl _, fun _ _ => rfl⟩) ⟨rfl, rfl, rfl, Nat.le_refl _, fun _ _ => rfl⟩ ?_ ?_ (post_none _ _) ?_ ?_ hop (fun vs w' h1 h2 => hend vs w' h1 (fun i hi => h2 i hi rfl))
  · intro i w
    unfold km
    split
    · exact hKr w
    · exact Below.refl _ _
  · intro i A B h k
    unfold km at k
    split at k
    · exact hRk _ _ h k
    · exact hRb _ _ h k
  · intro i A B hi _ h k
    unfold km at k
    rw [if_neg hi] at k
    exact h.trans (k.mono h.size)
  · intro vs i j w v w' hij _ hG hK
    unfold km at hK
    unfold gm at hG ⊢
    split at hK
    · rename_i hj
      rw [if_neg (by omega)] at hG ⊢
      exact (Gs.getD i mAny).2.2 w v w' hG hK
    · split
      · rename_i hi
        rw [if_pos hi] at hG
        exact Gm.2 w v w' hG hK
      · rename_i hi
        rw [if_neg hi] at hG
        exact (Gs.getD i mAny).2.1 w v w' hG hK
  · intro vs us i w v _ hG
    exact hG
end
theorem grown_trans {A B C : World} {r : Option Nat} (h : A.grownBy B r) (k : B.grownBy C r) : A.grownBy C r :=
  ⟨k.os.trans h.os, k.tape.trans h.tape, k.output.trans h.output, Nat.le_trans h.size k.size, fun i hi hn => (k.block i (Nat.lt_of_lt_of_le hi h.size) hn).trans (h.block i hi hn)⟩
theorem grown_below' {A B : World} (h : Below A.heap.size A B) (r : Option Nat) : A.grownBy B r := ⟨h.os, h.tape, h.output, h.size, fun k hk _ => h.block k hk⟩
theorem grown_below2 {A B : World} {n : Nat} (h : Below n A B) (hn : n = A.heap.size) (r : Option Nat) : A.grownBy B r := by subst hn; exact grown_below' h r
end Go.Proofs.YtpdnehgboafgpaaDoor
namespace Go.Proofs.YtpdnehgboafgpaaDoor
open Go.RowKit
def hangs (ops : Array Oper) (j i : Nat) : Bool := (ops[j]?).any fun o => o.after.any fun e => e.on == i && Region.binds .any e
theorem hangs_get {ops : Array Oper} {j i : Nat} (h : hangs ops j i = true) : ∃ o, ops[j]? = some o ∧ ∃ e ∈ o.after, e.on = i ∧ Region.binds .any e = true := by
  unfold hangs at h
  cases ho : ops[j]? with
  | none => rw [ho] at h; simp at h
  | some o =>
    rw [ho] at h
    simp only [Option.any_some, Array.any_eq_true', Bool.and_eq_true, beq_iff_eq] at h
    exact ⟨o, rfl, h⟩
def incB : List Nat → Bool
  | [] => true
  | [_] => true
  | c :: d :: r => decide (c < d) && incB (d :: r)
theorem inc_head : ∀ {r : List Nat} {c q d : Nat}, incB (c :: r) = true → r[q]? = some d → c < d
  | [], _, _, _, _, h => by simp at h
  | x :: r, c, 0, d, h, h2 => by
    simp only [incB, Bool.and_eq_true, decide_eq_true_eq] at h
    obtain rfl : x = d := by simpa using h2
    exact h.1
  | x :: r, c, q + 1, d, h, h2 => by
    simp only [incB, Bool.and_eq_true, decide_eq_true_eq] at h
    exact Nat.lt_trans h.1 (inc_head h.2 (by simpa using h2))
theorem inc_lt : ∀ {l : List Nat} {p q c d : Nat}, incB l = true → l[p]? = some c → l[q]? = some d → p < q → c < d
  | [], _, _, _, _, _, h, _, _ => by simp at h
  | x :: r, 0, q + 1, c, d, h, h1, h2, _ => by
    obtain rfl : x = c := by simpa using h1
    exact inc_head h (by simpa using h2)
  | x :: r, p + 1, q + 1, c, d, h, h1, h2, h3 => by
    have h' : incB r = true := by
      cases r with
      | nil => rfl
      | cons y r => simp only [incB, Bool.and_eq_true] at h; exact h.2
    exact inc_lt h' (by simpa using h1) (by simpa using h2) (by omega)
  | _, _, 0, _, _, _, _, _, h => absurd h (Nat.not_lt_zero _)
theorem inc_ix {l : List Nat} {p q c : Nat} (h : incB l = true) (h1 : l[p]? = some c) (h2 : l[q]? = some c) : p = q := by
  rcases Nat.lt_trichotomy p q with h3 | h3 | h3
  · exact absurd (inc_lt h h1 h2 h3) (Nat.lt_irrefl _)
  · exact h3
  · exact absurd (inc_lt h h2 h1 h3) (Nat.lt_irrefl _)
def lineB (ops : Array Oper) (ch : List Nat) : Bool :=
  (ch.all fun c => decide (c < ops.size)) && incB ch && (List.range ch.length).all fun p => p == 0 || hangs ops (ch.getD p 0) (ch.getD (p - 1) 0)
theorem line_lt {ops : Array Oper} {ch : List Nat} (h : lineB ops ch = true) {p c : Nat} (hp : ch[p]? = some c) : c < ops.size := by
  simp only [lineB, Bool.and_eq_true, List.all_eq_true, decide_eq_true_eq] at h
  exact h.1.1 c (List.mem_of_getElem? hp)
theorem line_hangs {ops : Array Oper} {ch : List Nat} (h : lineB ops ch = true) {p c d : Nat} (hp : ch[p + 1]? = some d) (hc : ch[p]? = some c) : hangs ops d c = true := by
  simp only [lineB, Bool.and_eq_true, List.all_eq_true, List.mem_range, Bool.or_eq_true, beq_iff_eq] at h
  have := (h.2 (p + 1) (List.getElem?_eq_some_iff.1 hp).1).resolve_left (by omega)
  rwa [List.getD_eq_getElem?_getD, hp, List.getD_eq_getElem?_getD, Nat.add_sub_cancel, hc] at this
section
variable {P : Program} {Q : Exit → Act → World → Prop}
def LineOp (P : Program) (Q : Exit → Act → World → Prop) (ops : Array Oper) (a : Act) (ch : List Nat) (G : Nat → World → Value → Prop) (J : List Value → World → Prop) (K : World → World → Prop) (p : Nat) (o : Oper) : Prop :=
  ∀ (A : Act) (vs : Nat → Value) (w' : World), (∀ t, slotIx ops.toList 0 t = none → A.eval (.tmp t) = a.eval (.tmp t)) → (∀ t j, t < a.tmps.size → slotIx ops.toList 0 t = some j → A.eval (.tmp t) = vs j) → J ((ch.take p).map vs) w' →
    (∀ q j d, p ≤ q → ch[q]? = some j → (ops[j]?).bind (·.dst) = some d → vs j = a.eval (.tmp d)) → (∀ e ∈ o.after, Region.binds .any e = true → ch.contains e.on = false → G e.on w' (vs e.on)) →
    o.wp P A w' (fun a2 w2 => ∃ v, a2 = A.put o.dst v ∧ J ((ch.take p).map vs ++ [v]) w2 ∧ K w' w2) Q
def SideOp (P : Program) (Q : Exit → Act → World → Prop) (ops : Array Oper) (a : Act) (ch : List Nat) (G : Nat → World → Value → Prop) (J : List Value → World → Prop) (i : Nat) (o : Oper) : Prop :=
  ∀ (A : Act) (vs : Nat → Value) (w' : World) (k : Nat), (∀ t, slotIx ops.toList 0 t = none → A.eval (.tmp t) = a.eval (.tmp t)) → (∀ t j, t < a.tmps.size → slotIx ops.toList 0 t = some j → A.eval (.tmp t) = vs j) → k ≤ ch.length → J ((ch.take k).map vs) w' →
    (∀ p c, ch[p]? = some c → hangs ops c i = true → k ≤ p) → (∀ q j d, k ≤ q → ch[q]? = some j → (ops[j]?).bind (·.dst) = some d → vs j = a.eval (.tmp d)) →
    (∀ e ∈ o.after, Region.binds .any e = true → ∀ p, ch[p]? = some e.on → p < k) → (∀ e ∈ o.after, Region.binds .any e = true → ch.contains e.on = false → G e.on w' (vs e.on)) →
    o.wp P A w' (fun a2 w2 => ∃ v, a2 = A.put o.dst v ∧ G i w2 v ∧ Below w'.heap.size w' w2) Q
def LnOp (P : Program) (Q : Exit → Act → World → Prop) (ops : Array Oper) (a : Act) (ch : List Nat) (G : Nat → World → Value → Prop) (J : List Value → World → Prop) (K : World → World → Prop) (i : Nat) (o : Oper) : Prop :=
  o.guard = none ∧ ((∃ p, ch[p]? = some i ∧ LineOp P Q ops a ch G J K p o) ∨ (ch.contains i = false ∧ SideOp P Q ops a ch G J i o))
theorem LnOp.line {ops : Array Oper} {a : Act} {ch : List Nat} {G : Nat → World → Value → Prop} {J : List Value → World → Prop} {K : World → World → Prop} {i : Nat} {o : Oper} (p : Nat) (hg : o.guard = none) (hp : ch[p]? = some i) (h : LineOp P Q ops a ch G J K p o) : LnOp P Q ops a ch G J K i o := ⟨hg, .inl ⟨p, hp, h⟩⟩
theorem LnOp.side {ops : Array Oper} {a : Act} {ch : List Nat} {G : Nat → World → Value → Prop} {J : List Value → World → Prop} {K : World → World → Prop} {i : Nat} {o : Oper} (hg : o.guard = none) (hp : ch.contains i = false) (h : SideOp P Q ops a ch G J i o) : LnOp P Q ops a ch G J K i o := ⟨hg, .inr ⟨hp, h⟩⟩
def LnAll (P : Program) (Q : Exit → Act → World → Prop) (ops : Array Oper) (a : Act) (ch : List Nat) (G : Nat → World → Value → Prop) (J : List Value → World → Prop) (K : World → World → Prop) : Nat → List Oper → Prop
  | _, [] => True
  | i, o :: rest => LnOp P Q ops a ch G J K i o ∧ LnAll P Q ops a ch G J K (i + 1) rest
theorem LnAll.get {ops : Array Oper} {a : Act} {ch : List Nat} {G : Nat → World → Value → Prop} {J : List Value → World → Prop} {K : World → World → Prop} : ∀ (l : List Oper) (k j : Nat) (o : Oper), LnAll P Q ops a ch G J K k l → l[j]? = some o → LnOp P Q ops a ch G J K (k + j) o
  | [], _, _, _, _, h => by simp at h
  | o' :: rest, k, 0, o, h, hj => by obtain rfl : o' = o := by simpa using hj
                                     exact h.1
  | o' :: rest, k, j + 1, o, h, hj => by rw [show k + (j + 1) = k + 1 + j by omega]; exact LnAll.get rest (k + 1) j o h.2 (by simpa using hj)
theorem map_upd_out {l : List Nat} {vs : Nat → Value} {i : Nat} {v : Value} (h : i ∉ l) : l.map (upd vs i v) = l.map vs := by
  refine List.map_congr_left fun j hj => ?_
  have : j ≠ i := fun e => h (by rw [← e]; exact hj)
  simp [upd, this]
theorem wp_region_line {id : Nat} {ops : Array Oper} {a : Act} {w : World} (hm : P.follows .mixedOrders = true) (hs : gdB ops = true) (ch : List Nat) (hch : lineB ops ch = true) (G : Nat → World → Value → Prop) (J : List Value → World → Prop) (K : World → World → Prop)
    (hG : ∀ i w v w', G i w v → Below w.heap.size w w' → G i w' v) (hK : ∀ i w v w', G i w v → K w w' → G i w' v) (hJ : ∀ l w w', J l w → Below w.heap.size w w' → J l w') (h0 : J [] w)
    (hop : LnAll P Q ops a ch G J K 0 ops.toList)
    (hend : ∀ (vs : Nat → Value) (w' : World), J (ch.map vs) w' → (∀ i, i < ops.size → ch.contains i = false → G i w' (vs i)) → Q .normal (putAll a ops.toList vs 0) w') : (Code.region id ops true).wp P Q a w := by
  refine wp_region_any hm ?_
  have hnd : (ops.toList.filterMap (·.dst)).Nodup := by simp only [gdB, slotsB, Bool.and_eq_true, decide_eq_true_eq] at hs; exact hs.2
  have hinc : incB ch = true := by simp only [lineB, Bool.and_eq_true] at hch; exact hch.1.2
  have main : ∀ (fuel : Nat) (listed : Array Bool) (vs : Nat → Value) (w' : World) (k : Nat), listed.size = ops.size → (unlisted ops.size listed).length ≤ fuel → k ≤ ch.length → (∀ p c, ch[p]? = some c → (listed.getD c true = true ↔ p < k)) → J ((ch.take k).map vs) w' →
      (∀ i, i < ops.size → listed.getD i true = true → ch.contains i = false → G i w' (vs i)) → (∀ i o, ops[i]? = some o → listed.getD i true = true → ∀ e ∈ o.after, Region.binds .any e = true → e.on < ops.size ∧ listed.getD e.on true = true) → (∀ j, j < ops.size → listed.getD j true = false → ∀ d, (ops[j]?).bind (·.dst) = some d → vs j = a.eval (.tmp d)) → wpAny P .any ops Q fuel listed (putAll a ops.toList vs 0) w' := by
    intro fuel
    have fin : ∀ (listed : Array Bool) (vs : Nat → Value) (w' : World) (k : Nat), k ≤ ch.length → (∀ p c, ch[p]? = some c → (listed.getD c true = true ↔ p < k)) → J ((ch.take k).map vs) w' →
        (∀ i, i < ops.size → listed.getD i true = true → ch.contains i = false → G i w' (vs i)) → (∀ i, i < ops.size → listed.getD i true = true) → Q .normal (putAll a ops.toList vs 0) w' := by
      intro listed vs w' k hk hlk hJ' hG' hall
      have : k = ch.length := by
        rcases Nat.lt_or_ge k ch.length with h | h
        · have h1 := List.getElem?_eq_getElem h
          have h2 := (hlk k _ h1).1 (hall _ (line_lt hch h1))
          omega
        · omega
      subst this
      rw [List.take_length] at hJ'
      exact hend vs w' hJ' fun i hi hc => hG' i hi (hall i hi) hc
    induction fuel with
    | zero =>
      intro listed vs w' k hsz hu hk hlk hJ' hG' hcl hun
      have hall : ∀ i, i < ops.size → listed.getD i true = true := by
        intro i hi
        cases hl : listed.getD i true with
        | true => rfl
        | false =>
          have : i ∈ unlisted ops.size listed := List.mem_filter.2 ⟨List.mem_range.2 hi, by simp [hl]⟩
          rw [List.eq_nil_of_length_eq_zero (Nat.le_zero.1 hu)] at this
          cases this
      refine ⟨?_, fin listed vs w' k hk hlk hJ' hG' hall⟩
      unfold Region.ready
      rw [List.filter_eq_nil_iff]
      intro i hi
      simp [hall i (List.mem_range.1 hi)]
    | succ fuel ih =>
      intro listed vs w' k hsz hu hk hlk hJ' hG' hcl hun
      refine ⟨fun hr => fin listed vs w' k hk hlk hJ' hG' (fun i hi => all_listed_gd hs hr i hi), fun i hi => ?_⟩
      unfold Region.ready at hi
      obtain ⟨hi1, hi2⟩ := List.mem_filter.1 hi
      have hlt := List.mem_range.1 hi1
      rw [Bool.and_eq_true] at hi2
      obtain ⟨hl, hdep⟩ := hi2
      have hl' : listed.getD i true = false := by simpa using hl
      obtain ⟨o, ho⟩ : ∃ o, ops[i]? = some o := ⟨_, Array.getElem?_eq_getElem hlt⟩
      rw [ho] at hdep
      simp only [Option.map_some, Option.getD_some] at hdep
      rw [Array.all_eq_true'] at hdep
      have hgop := LnAll.get ops.toList 0 i o hop (by rw [Array.getElem?_toList]; exact ho)
      rw [Nat.zero_add] at hgop
      have hdepG : ∀ e ∈ o.after, Region.binds .any e = true → e.on < ops.size ∧ listed.getD e.on true = true := by
        intro e he hbn
        have h := hdep e he
        rw [hbn] at h
        simp only [Bool.not_true, Bool.false_or] at h
        have hin : e.on < listed.size := by
          rcases Nat.lt_or_ge e.on listed.size with h' | h'
          · exact h'
          · simp [Array.getD_eq_getD_getElem?, Array.getElem?_eq_none_iff.2 h'] at h
        have hl2 : listed.getD e.on true = true := by
          simp only [Array.getD_eq_getD_getElem?, Array.getElem?_eq_getElem hin, Option.getD_some] at h ⊢
          exact h
        exact ⟨by omega, hl2⟩
      have hdepS : ∀ e ∈ o.after, Region.binds .any e = true → ch.contains e.on = false → G e.on w' (vs e.on) := fun e he hbn hc => hG' e.on (hdepG e he hbn).1 (hdepG e he hbn).2 hc
      have hlate : ∀ q j d, k ≤ q → ch[q]? = some j → (ops[j]?).bind (·.dst) = some d → vs j = a.eval (.tmp d) := by
        intro q j d hq hj hd
        refine hun j (line_lt hch hj) ?_ d hd
        cases hlj : listed.getD j true with
        | false => rfl
        | true => have := (hlk q j hj).1 hlj; omega
      have step : ∀ (v : Value) (w2 : World) (k2 : Nat), k2 ≤ ch.length → (∀ p c, ch[p]? = some c → ((c = i ∨ p < k) ↔ p < k2)) → J ((ch.take k2).map (upd vs i v)) w2 → (ch.contains i = false → G i w2 v) → (∀ j u, ch.contains j = false → G j w' u → G j w2 u) → wpAny P .any ops Q fuel (listed.setIfInBounds i true) ((putAll a ops.toList vs 0).put o.dst v) w2 := by
        intro v w2 k2 hk2 hlk2 hJ2 hGi hGs
        rw [putAll_put ops.toList a vs 0 i o v hnd (by rw [Array.getElem?_toList]; exact ho), Nat.zero_add]
        have hset : ∀ j, (listed.setIfInBounds i true).getD j true = true ↔ j = i ∨ listed.getD j true = true := fun j => by
          by_cases hji : j = i
          · subst hji
            simp [Array.getD_eq_getD_getElem?, Array.getElem?_setIfInBounds_self_of_lt (by omega : j < listed.size)]
          · simp [Array.getD_eq_getD_getElem?, Array.getElem?_setIfInBounds_ne (Ne.symm hji), hji]
        refine ih _ _ _ k2 (by simp [hsz]) (by have := unlisted_set hsz hlt hl'; omega) hk2 (fun p c hp => ?_) hJ2 (fun j hj hlj hc => ?_) (fun j oj hoj hlj e he hbn => ?_) (fun j hj hlj d hd => ?_)
        · rw [hset, ← hlk2 p c hp, hlk p c hp]
        · by_cases hji : j = i
          · subst hji
            simpa [upd] using hGi hc
          · have hlj' := ((hset j).1 hlj).resolve_left hji
            have hv : upd vs i v j = vs j := by simp [upd, hji]
            rw [hv]
            exact hGs j _ hc (hG' j hj hlj' hc)
        · by_cases hji : j = i
          · subst hji
            obtain rfl : o = oj := by rw [ho] at hoj; injection hoj
            have := hdepG e he hbn
            exact ⟨this.1, (hset _).2 (.inr this.2)⟩
          · have hlj' := ((hset j).1 hlj).resolve_left hji
            have := hcl j oj hoj hlj' e he hbn
            exact ⟨this.1, (hset _).2 (.inr this.2)⟩
        · have hji : j ≠ i := fun e => by
            have := (hset j).2 (.inl e)
            rw [hlj] at this; cases this
          have hv : upd vs i v j = vs j := by simp [upd, hji]
          rw [hv]
          refine hun j hj ?_ d hd
          cases h : listed.getD j true with
          | false => rfl
          | true => have := (hset j).2 (.inr h); rw [hlj] at this; cases this
      unfold wpOp
      simp only [ho, Region.wanted, hgop.1, if_true]
      left
      rcases hgop.2 with ⟨p, hp, hln⟩ | ⟨hc, hsd⟩
      · have hkp : k = p := by
          have h1 : ¬ p < k := fun h => by have := (hlk p i hp).2 h; rw [hl'] at this; cases this
          cases p with
          | zero => omega
          | succ p =>
            obtain ⟨c, hcp⟩ : ∃ c, ch[p]? = some c := ⟨_, List.getElem?_eq_getElem (by have := (List.getElem?_eq_some_iff.1 hp).1; omega)⟩
            obtain ⟨o2, ho2, e, he, rfl, hbn⟩ := hangs_get (line_hangs hch hp hcp)
            obtain rfl : o = o2 := by rw [ho] at ho2; injection ho2
            have := (hlk p _ hcp).1 (hdepG e he hbn).2
            omega
        subst hkp
        have hkl := (List.getElem?_eq_some_iff.1 hp).1
        have hwp := hln (putAll a ops.toList vs 0) vs w' (fun t h => eval_putAll_out _ _ _ _ _ h) (fun t j ht h => eval_putAll_in _ _ _ _ _ _ hnd ht h) hJ' hlate hdepS
        refine Oper.wp_mono ?_ hwp
        rintro a2 w2 ⟨v, rfl, hJ2, hK2⟩
        refine step v w2 (k + 1) hkl (fun p c hpc => ?_) ?_ (fun hc => ?_) (fun j u _ hg => hK j w' u w2 hg hK2)
        · constructor
          · rintro (rfl | h)
            · have := inc_ix hinc hpc hp; omega
            · omega
          · intro h
            by_cases h3 : p = k
            · subst h3
              rw [hp] at hpc
              injection hpc with hpc
              exact .inl hpc.symm
            · exact .inr (by omega)
        · have e1 : ch.take (k + 1) = ch.take k ++ [i] := by
            rw [List.take_add_one, hp]; rfl
          have e2 : i ∉ ch.take k := fun hmem => by
            obtain ⟨q, hq⟩ := List.mem_iff_getElem?.1 hmem
            rw [List.getElem?_take] at hq
            split at hq
            · have := inc_ix hinc hq hp; omega
            · cases hq
          rw [e1, List.map_append, map_upd_out e2]
          simpa [upd] using hJ2
        · rw [List.contains_iff_mem.2 (List.mem_of_getElem? hp)] at hc
          cases hc
      · have hci : i ∉ ch := fun h => by rw [List.contains_iff_mem.2 h] at hc; cases hc
        have hwp := hsd (putAll a ops.toList vs 0) vs w' k (fun t h => eval_putAll_out _ _ _ _ _ h) (fun t j ht h => eval_putAll_in _ _ _ _ _ _ hnd ht h) hk hJ' (fun p c hpc hh => ?_) hlate (fun e he hbn p hp => (hlk p e.on hp).1 (hdepG e he hbn).2) hdepS
        · refine Oper.wp_mono ?_ hwp
          rintro a2 w2 ⟨v, rfl, hg, hb2⟩
          refine step v w2 k hk (fun p c hpc => ⟨fun h => ?_, .inr⟩) ?_ (fun _ => hg) (fun j u _ hgj => hG j w' u w2 hgj hb2)
          · rcases h with rfl | h
            · exact absurd (List.mem_of_getElem? hpc) hci
            · exact h
          · rw [map_upd_out (fun hmem => hci (List.mem_of_mem_take hmem))]
            exact hJ _ _ _ hJ' hb2
        · rcases Nat.lt_or_ge p k with h | h
          · exfalso
            obtain ⟨o2, ho2, e, he, hei, hbn⟩ := hangs_get hh
            have := (hcl c o2 ho2 ((hlk p c hpc).2 h) e he hbn).2
            rw [hei, hl'] at this
            cases this
          · exact h
  have hbz : Below w.heap.size w { w with drawn := w.drawn + 1 } := ⟨rfl, rfl, rfl, Nat.le_refl _, fun _ _ => rfl⟩
  have h1 := main ops.size (Array.replicate ops.size false) (fun i => ((ops[i]?).bind (·.dst)).elim undef (fun d => a.tmps.getD d undef)) { w with drawn := w.drawn + 1 } 0 (by simp)
    (by have := List.length_filter_le (fun i => !(Array.replicate ops.size false).getD i true) (List.range ops.size); simpa [unlisted] using this) (Nat.zero_le _)
    (fun p c hp => by have := line_lt hch hp; simp [Array.getD_eq_getD_getElem?, this]) (hJ _ _ _ h0 hbz)
    (fun i hi h => by simp [Array.getD_eq_getD_getElem?, hi] at h) (fun i o ho h => by
      have : i < ops.size := (Array.getElem?_eq_some_iff.1 ho).1
      simp [Array.getD_eq_getD_getElem?, this] at h)
    (fun j hj _ d hd => by simp only [hd, Option.elim]; rfl)
  rw [putAll_orig ops.toList a _ 0 (fun j o d hj hd => by
    rw [Array.getElem?_toList] at hj
    simp [hj, hd])] at h1
  exact h1
end
abbrev SGn (K : World → World → Prop) := { G : World → Value → Prop // (∀ w v w', G w v → Below w.heap.size w w' → G w' v) ∧ (∀ w v w', G w v → K w w' → G w' v) }
section
variable {K : World → World → Prop}
def lEq (u : Value) : SGn K := ⟨fun _ v => v = u, fun _ _ _ h _ => h, fun _ _ _ h _ => h⟩
def lAny : SGn K := ⟨fun _ _ => True, fun _ _ _ h _ => h, fun _ _ _ h _ => h⟩
variable {P : Program} {Q : Exit → Act → World → Prop}
theorem wp_region_lnl {id : Nat} {ops : Array Oper} {a : Act} {w : World} (hm : P.follows .mixedOrders = true) (hs : gdB ops = true) (ch : List Nat) (hch : lineB ops ch = true) (Gs : List (SGn K)) (J : List Value → World → Prop)
    (hJ : ∀ l w w', J l w → Below w.heap.size w w' → J l w') (h0 : J [] w)
    (hop : LnAll P Q ops a ch (fun i => (Gs.getD i lAny).1) J K 0 ops.toList)
    (hend : ∀ (vs : Nat → Value) (w' : World), J (ch.map vs) w' → (∀ i, i < ops.size → ch.contains i = false → (Gs.getD i lAny).1 w' (vs i)) → Q .normal (putAll a ops.toList vs 0) w') : (Code.region id ops true).wp P Q a w :=
  wp_region_line hm hs ch hch (fun i => (Gs.getD i lAny).1) J K (fun i => (Gs.getD i lAny).2.1) (fun i => (Gs.getD i lAny).2.2) hJ h0 hop hend
end
end Go.Proofs.YtpdnehgboafgpaaDoor
namespace Go.Proofs.YtpdnehgboafgpaaDoor
open Go.RowKit
theorem grown_setRow (w : World) (g : Nat) (cs : Array Value) : w.grownBy (w.setRow g cs) (some g) :=
  ⟨rfl, rfl, rfl, by unfold World.setRow; simp, fun k _ hk => setRow_other w g k cs (fun e => hk (by rw [e]))⟩
section
variable {α : Type} {E : Elt α} {P : Program} {T Te : TypeId} {ops : Array Oper} {rest : List Oper} {o : Oper} {a : Act} {Q : Exit → Act → World → Prop} {w : World} {S : Nat → Prop}
theorem wpList_sliceRaw {n : Nat} (hP : LsP P T Te n) {x : Operand} {lo hi : Option Operand} (ho : o.op = .slice T x lo hi none) (hgd : Region.wanted o (yielded ops a.tmps) = true) {ad : Option Addr} {k c : Nat} (hx : a.eval x = .slice ad k c)
    {l r : Nat} (hb : (Instr.sliceBounds true k c (lo.map a.eval) (hi.map a.eval) none).run P w = .ok (l, r, c) w)
    (h : wpList P ops Q rest (a.put o.dst (.slice (if c = l then ad else ad.map (·.add (l * n))) (r - l) (c - l))) w) : wpList P ops Q (o :: rest) a w := by
  refine BigFrame.wpList_want hgd fun K hK => ?_
  unfold Oper.wp execOp
  simp only [ho, hx, Option.map_none, Sem.run_bind, Sem.run_pure, Result.andThen_ok, run_sliceL hP hb]
  exact hK _ _ h
end
end Go.Proofs.YtpdnehgboafgpaaDoor
namespace Go.Proofs.YtpdnehgboafgpaaDoor
open Go.RowKit
section
variable {α : Type} {E : Elt α} {Te : TypeId} {base lo : Nat} {r : Option Nat} {W : World} {xs ys : List α}
theorem grownB {A B : World} (h : Below A.heap.size A B) (r : Option Nat) : A.grownBy B r := ⟨h.os, h.tape, h.output, h.size, fun k hk _ => h.block k hk⟩
theorem grownT {A B C : World} (h : A.grownBy B r) (k : B.grownBy C r) : A.grownBy C r := ⟨k.os.trans h.os, k.tape.trans h.tape, k.output.trans h.output, Nat.le_trans h.size k.size, fun j hj hn => (k.block j (Nat.lt_of_lt_of_le hj h.size) hn).trans (h.block j hj hn)⟩
variable {P : Program} {T : TypeId} {o : Oper} {a : Act} {Q : Exit → Act → World → Prop} {K : Act → World → Prop}
variable {ops : Array Oper} {rest : List Oper} {w : World}
theorem wpList_buildOne {n : Nat} (hP : LoP P T Te n) {y : Operand} {v : Value} {us : List Value} (ho : o.op = .buildSlice T 1 #[(0, y)]) (hgd : Region.wanted o (yielded ops a.tmps) = true) (hy : a.eval y = v) (hv : v.cells = us.toArray) (hl : us.length = n) (h0 : 0 < n) (hn : n ≤ 4096)
    (h : ∀ w', Below w.heap.size w w' → w'.heap[w.heap.size]? = some (.cells us.toArray Te (0, 0)) → wpList P ops Q rest (a.put o.dst (.slice (some ⟨w.heap.size, 0, none⟩) 1 1)) w') : wpList P ops Q (o :: rest) a w :=
  BigFrame.wpList_want hgd fun _ hK => wp_buildOne hP ho hy hv hl h0 hn (hK _ _ (h _ ((Below.refl _ _).alloc (Nat.le_refl _) _) (by simp only [World.alloc, Array.getElem?_push_size])))
theorem wpList_apvRow (hP : LoP P T Te E.size) {x y : Operand} {S : Nat → Prop} {e : α} {us : List Value} {n g : Nat} {v : Value} (ho : o.op = .call { callee := .builtin .append, args := #[x, y], argTypes := #[T, T] }) (hgd : Region.wanted o (yielded ops a.tmps) = true) (hx : a.eval x = v) (hy : a.eval y = .slice (some ⟨g, 0, none⟩) 1 1)
    (hO : OwnL E Te base lo w v xs) (hrow : w.heap[g]? = some (.cells us.toArray Te (0, 0))) (hR : E.R S w e us) (hS : ∀ k, S k → lo ≤ k ∧ k < w.heap.size ∧ some k ≠ v.ownBlock) (hbase : base ≤ w.heap.size) (hlen : xs.length + 1 ≤ 1073741824) (hn : n = xs.length + 1)
    (h : ∀ ad cap w', OwnL E Te base lo w' (.slice ad n cap) (xs ++ [e]) → w.grownBy w' v.ownBlock → (Value.ownBlock (.slice ad n cap) = v.ownBlock ∨ Value.ownBlock (.slice ad n cap) = some w.heap.size) → wpList P ops Q rest (a.put o.dst (.slice ad n cap)) w') : wpList P ops Q (o :: rest) a w := by
  refine wpList_appendL (E := E) (ys := [e]) hP ho hgd hx hO hy (fun j u hj => by rw [Addr.add_lit, World.cell?, hrow]; simpa using hj) (Flat.single hR) hS hbase (fun ad7 k7 cap7 w2 h2 hg h3 => ?_) hlen
  obtain rfl : k7 = n := by rw [h2.len, List.length_append, hn]; rfl
  exact h _ _ _ h2 hg h3
end
end Go.Proofs.YtpdnehgboafgpaaDoor
namespace Go.Proofs.YtpdnehgboafgpaaDoor
open Go.RowKit
section
variable {P : Program} {T E S : TypeId} {o : Oper} {a : Act} {K : Act → Prop} {w : World}
theorem quiet_run {v : Value} (hrun : ∀ n, (execOp a.eval o).run P (w.drewN n) = .ok (.value v) (w.drewN n)) (h : K (a.put o.dst v)) : o.quiet P a (fun w'' => ∃ n, w'' = w.drewN n) K := by
  refine ⟨_, fun w2 h2 => ?_, h⟩
  obtain ⟨n, rfl⟩ := h2
  unfold Oper.quietAt
  rw [hrun]
  exact ⟨rfl, rfl⟩
end
end Go.Proofs.YtpdnehgboafgpaaDoor
namespace Go.Proofs.YtpdnehgboafgpaaDoor
open Go.Shelf
set_option maxRecDepth 100000
def lays189_ren : Go.Shelf.Ren := ⟨fun | 189 => 79 | 125 => 87 | 257 => 86 | 128 => 98 | 129 => 99 | 294 => 89 | 295 => 90 | 296 => 91 | 297 => 92 | 298 => 93 | 299 => 94 | 216 => 95 | 300 => 96 | 301 => 97 | 328 => 100 | 329 => 101 | 330 => 102 | 331 => 103 | 332 => 104 | 215 => 85 | 343 => 105 | n => n, fun | 28 => 34 | 3 => 3 | 46 => 104 | 0 => 0 | 51 => 113 | 53 => 115 | 4 => 4 | 183 => 107 | 182 => 106 | 131 => 42 | 5 => 5 | 9 => 9 | 218 => 116 | 222 => 120 | 228 => 122 | 229 => 123 | n => n, fun | n => n⟩
theorem lays189 : Go.Proofs.Lays.n189 Tryd.prog lays189_ren := {
  mixed := by kernel_rfl
  f125 := Tryd.func87.trans (congrArg some (by kernel_rfl))
  f128 := Tryd.func98.trans (congrArg some (by kernel_rfl))
  f129 := Tryd.func99.trans (congrArg some (by kernel_rfl))
  f189 := Tryd.func79.trans (congrArg some (by kernel_rfl))
  f215 := Tryd.func85.trans (congrArg some (by kernel_rfl))
  f216 := Tryd.func95.trans (congrArg some (by kernel_rfl))
  f257 := Tryd.func86.trans (congrArg some (by kernel_rfl))
  f294 := Tryd.func89.trans (congrArg some (by kernel_rfl))
  f295 := Tryd.func90.trans (congrArg some (by kernel_rfl))
  f296 := Tryd.func91.trans (congrArg some (by kernel_rfl))
  f297 := Tryd.func92.trans (congrArg some (by kernel_rfl))
  f298 := Tryd.func93.trans (congrArg some (by kernel_rfl))
  f299 := Tryd.func94.trans (congrArg some (by kernel_rfl))
  f300 := Tryd.func96.trans (congrArg some (by kernel_rfl))
  f301 := Tryd.func97.trans (congrArg some (by kernel_rfl))
  f328 := Tryd.func100.trans (congrArg some (by kernel_rfl))
  f329 := Tryd.func101.trans (congrArg some (by kernel_rfl))
  f330 := Tryd.func102.trans (congrArg some (by kernel_rfl))
  f331 := Tryd.func103.trans (congrArg some (by kernel_rfl))
  f332 := Tryd.func104.trans (congrArg some (by kernel_rfl))
  f343 := Tryd.func105.trans (congrArg some (by kernel_rfl))
  t0 := Tryd.underlying0
  a0 := Tryd.isAgg0
  z0 := Tryd.sizeOf0
  v0 := Tryd.zeroValue0
  t3 := Tryd.underlying3
  a3 := Tryd.isAgg3
  z3 := Tryd.sizeOf3
  v3 := Tryd.zeroValue3
  t4 := Tryd.underlying4
  a4 := Tryd.isAgg4
  z4 := Tryd.sizeOf4
  v4 := Tryd.zeroValue4
  t5 := Tryd.underlying5
  a5 := Tryd.isAgg5
  z5 := Tryd.sizeOf5
  v5 := Tryd.zeroValue5
  t9 := Tryd.underlying9
  a9 := Tryd.isAgg9
  z9 := Tryd.sizeOf9
  v9 := Tryd.zeroValue9
  t28 := Tryd.underlying34
  a28 := Tryd.isAgg34
  z28 := Tryd.sizeOf34
  v28 := Tryd.zeroValue34
  t46 := Tryd.underlying104
  a46 := Tryd.isAgg104
  z46 := Tryd.sizeOf104
  v46 := Tryd.zeroValue104
  t51 := Tryd.underlying113
  a51 := Tryd.isAgg113
  z51 := Tryd.sizeOf113
  v51 := Tryd.zeroValue113
  t53 := Tryd.underlying115
  a53 := Tryd.isAgg115
  z53 := Tryd.sizeOf115
  v53 := Tryd.zeroValue115
  t131 := Tryd.underlying42
  a131 := Tryd.isAgg42
  z131 := Tryd.sizeOf42
  v131 := Tryd.zeroValue42
  t182 := Tryd.underlying106
  a182 := Tryd.isAgg106
  z182 := Tryd.sizeOf106
  v182 := Tryd.zeroValue106
  t183 := Tryd.underlying107
  a183 := Tryd.isAgg107
  z183 := Tryd.sizeOf107
  v183 := Tryd.zeroValue107
  t218 := Tryd.underlying116
  a218 := Tryd.isAgg116
  z218 := Tryd.sizeOf116
  v218 := Tryd.zeroValue116
  t222 := Tryd.underlying120
  a222 := Tryd.isAgg120
  z222 := Tryd.sizeOf120
  v222 := Tryd.zeroValue120
  t228 := Tryd.underlying122
  a228 := Tryd.isAgg122
  z228 := Tryd.sizeOf122
  v228 := Tryd.zeroValue122
  t229 := Tryd.underlying123
  a229 := Tryd.isAgg123
  z229 := Tryd.sizeOf123
  v229 := Tryd.zeroValue123 }
def lays2n20_ren : Go.Shelf.Ren := ⟨fun | 20 => 80 | n => n, fun | 22 => 34 | 3 => 3 | 4 => 4 | 0 => 0 | n => n, fun | n => n⟩
theorem lays2n20 : Go.Proofs.Lays2.n20 Tryd.prog lays2n20_ren := {
  mixed := by kernel_rfl
  f20 := Tryd.func80.trans (congrArg some (by kernel_rfl))
  t0 := Tryd.underlying0
  a0 := Tryd.isAgg0
  z0 := Tryd.sizeOf0
  v0 := Tryd.zeroValue0
  t3 := Tryd.underlying3
  a3 := Tryd.isAgg3
  z3 := Tryd.sizeOf3
  v3 := Tryd.zeroValue3
  t4 := Tryd.underlying4
  a4 := Tryd.isAgg4
  z4 := Tryd.sizeOf4
  v4 := Tryd.zeroValue4
  t22 := Tryd.underlying34
  a22 := Tryd.isAgg34
  z22 := Tryd.sizeOf34
  v22 := Tryd.zeroValue34
  i3 := by kernel_rfl }
end Go.Proofs.YtpdnehgboafgpaaDoor
namespace Go.Proofs.YtpdnehgboafgpaaDoor
open Go.RowKit Go.Shelf
def riseL (l : List Int) : List Int := Lib.compact (l.mergeSort fun x y => decide (x ≤ y))
theorem flat_int {S : Nat → Prop} {w : World} : ∀ {l : List Int} {vs : List Value}, Flat Elt.int S w l vs ↔ vs = l.map (Value.int .i64) ∧ ∀ x ∈ l, W64 x
  | [], vs => by simp [Flat]
  | x :: l, vs => by
    have ih := fun vs => @flat_int S w l vs
    constructor
    · rintro ⟨us, ws, rfl, ⟨rfl, h1⟩, h2⟩
      obtain ⟨rfl, h3⟩ := (ih ws).1 h2
      refine ⟨rfl, fun y hy => ?_⟩
      rcases List.mem_cons.1 hy with rfl | hy
      · exact h1
      · exact h3 y hy
    · rintro ⟨rfl, h⟩
      exact ⟨[.int .i64 x], l.map (Value.int .i64), rfl, ⟨rfl, h x List.mem_cons_self⟩, (ih _).2 ⟨rfl, fun y hy => h y (List.mem_cons_of_mem _ hy)⟩⟩
theorem compact_sub (l : List Int) : ∀ x ∈ Lib.compact l, x ∈ l := by
  intro x h
  unfold Lib.compact Lib.compactUpTo at h
  obtain ⟨i, hi, rfl⟩ := List.mem_map.1 h
  have hi' : i < l.length := List.mem_range.1 (List.mem_filter.1 hi).1
  simp [getElem!_pos, hi']
theorem compact_len (l : List Int) : (Lib.compact l).length ≤ l.length := by
  unfold Lib.compact Lib.compactUpTo
  rw [List.length_map]
  have := List.length_filter_le (Lib.keeps l.toArray) (List.range l.length)
  rwa [List.length_range] at this
theorem rise_sub {l : List Int} {x : Int} (h : x ∈ riseL l) : x ∈ l := (List.mergeSort_perm l _).subset (compact_sub _ x h)
theorem grown_putI {w : World} {g q : Nat} {d : Array Int} : w.grownBy (Sort.putRow (Value.int .i64) (Sort.ahead w q) g 0 d) (some g) :=
  ⟨rfl, rfl, rfl, by simp [Sort.putRow, Sort.mapBlock, Sort.ahead], fun k _ hk => by
    have : g ≠ k := fun e => hk (by rw [e])
    simp [Sort.putRow, Sort.mapBlock, Sort.ahead, Array.getElem?_modify, this]⟩
set_option maxRecDepth 100000 in
set_option maxHeartbeats 4000000 in
theorem rising_any (w : World) {base lo : Nat} {a : Option Addr} {n c : Nat} {l : List Int} (hO : OwnL Elt.int 3 base lo w (.slice a n c) l) (hl : l.length ≤ 1000000) :
    Calls Tryd.prog 57 #[.slice a n c] w fun e w' => ∃ c', e = .returned (.slice a (riseL l).length c') ∧ OwnL Elt.int 3 base lo w' (.slice a (riseL l).length c') (riseL l) ∧ w.grownBy w' (Value.slice a n c).ownBlock := by
  obtain ⟨vs, ho, hf⟩ := hO
  obtain ⟨rfl, hw⟩ := flat_int.1 hf
  have hlen : n = l.length := OwnL.len ⟨_, ho, hf⟩
  subst hlen
  clear hf
  by_cases h0 : (Value.slice a l.length c) = .slice none 0 0
  · injection h0 with h1 h2 h3
    subst h1 h3
    obtain rfl : l = [] := List.eq_nil_of_length_eq_zero h2
    have hS := Any.slices_Sort_int_none lays189 none 0 w
    have hC := Any.slices_Compact_int_empty lays2n20 none 0 w
    go_enter Tryd.func57, Tryd.ntmps57
    go_wp2_with fail
    refine hS.mono ?_
    rintro e w1 ⟨rfl, rfl⟩
    go_wp2_with fail
    refine hC.mono ?_
    rintro e w1 ⟨rfl, rfl⟩
    go_wp2_with fail
    go_ret
    have e0 : riseL [] = [] := by simp [riseL, Lib.compact, Lib.compactUpTo]
    rw [e0]
    exact ⟨0, rfl, OwnL.nil _ _ _ _ _, grownB (Below.refl _ _) _⟩
  obtain ⟨g, cap, e0, hb, hg, hn, hm, _, hH⟩ := Lib.holds_of_ownsRow ho h0
  injection e0 with e1 _ e2
  subst e1 e2
  have hS := Any.slices_Sort_int lays189 g 0 c l w hH hg (by omega)
  clear hH h0
  go_enter Tryd.func57, Tryd.ntmps57
  go_wp2_with fail
  refine hS.mono ?_
  rintro e w1 ⟨rfl, k, os, ew⟩
  obtain ⟨cur, hgc, hcs⟩ : ∃ cur, w.heap[g]? = some (.cells cur 3 (0, 0)) ∧ cur.size = c * 1 := by
    rcases ho.2 with ⟨h, _⟩ | ⟨g', cap', cur, e0, _, hgc, _, _, hcs, _⟩
    · cases h
    · injection e0 with e1 _ e2
      injection e1 with e1
      injection e1 with e1
      subst e1 e2
      exact ⟨cur, hgc, hcs⟩
  have ho1 := ownsRow_sortedI (ts := l.mergeSort fun x y => decide (x ≤ y)) (os := os) (n := k) (ss := l) (List.length_mergeSort _) hb hgc hn hm hcs
  have hg1 : w.grownBy w1 (some g) := by rw [ew]; exact grownBy_sortedI _
  rw [← ew] at ho1
  clear ew hS ho
  obtain ⟨s, hs⟩ : ∃ s, s = l.mergeSort fun x y => decide (x ≤ y) := ⟨_, rfl⟩
  have hsl : s.length = l.length := by rw [hs, List.length_mergeSort]
  have hsr := Lib.hid (show Lib.compact s = riseL l by rw [hs]; rfl)
  rw [← hs] at ho1
  clear hs
  rw [← hsl] at ho1 hn ⊢
  obtain ⟨g', cap, e0, hb2, hg2, hn2, hm2, _, hH⟩ := Lib.holds_of_ownsRow ho1 (fun h => by cases h)
  injection e0 with e1 _ e2
  injection e1 with e1
  injection e1 with e1
  subst e1 e2
  have hC := Any.slices_Compact_int lays2n20 g 0 c s w1 hH (by omega) hn
  replace hsl := Lib.hid hsl
  clear hH
  go_wp2_with fail
  refine hC.mono ?_
  rintro e w2 ⟨rfl, q, ew⟩
  have hcl := compact_len s
  have ho2 := Lib.ownsRow_putRow (q := q) (k := (Lib.compact s).length) (ys := Lib.compact s ++ List.replicate (s.length - (Lib.compact s).length) 0) ho1 (by simp; omega) hcl
  have hg2 : w1.grownBy w2 (some g) := by rw [ew]; exact grown_putI
  rw [← ew, List.take_left] at ho2
  clear ew hC hcl
  rw [hsr.out] at ho2 ⊢
  go_wp2_with fail
  go_ret
  exact ⟨c, rfl, ⟨_, ho2, flat_int.2 ⟨rfl, fun x hx => hw x (rise_sub hx)⟩⟩, grownT hg1 hg2⟩
end Go.Proofs.YtpdnehgboafgpaaDoor
namespace Go.Proofs.YtpdnehgboafgpaaDoor
open Go.RowKit
set_option maxRecDepth 100000 in
theorem join_any (w : World) (a b : Int) : Calls Tryd.prog 61 #[.int .i64 a, .int .i64 b] w fun e w' => e = .returned (.int .i64 (joinM a b)) ∧ w' = w := by
  go_enter Tryd.func61, Tryd.ntmps61
  go_upto_region 2 with (fail)
  go_loopw [7] (fun iv wr => ∃ i : Nat, iv = .int .i64 i ∧ i ≤ 5 ∧ RowKit.Hid (∀ j : Nat, j < i → (covM ((j : Int) + 1) a && covM ((j : Int) + 1) b) = false) ∧ wr = w) (fun i _ => 5 - (intOf i).toNat)
  case atStart => exact ⟨0, rfl, by omega, Lib.hid (fun j h => absurd h (by omega)), rfl⟩
  case round =>
    obtain ⟨i, rfl, hil, hno, rfl⟩ := hrel
    rcases Nat.lt_or_ge i 5 with hlt | hge
    · have d1 : decide ((i : Int) < 5) = true := by simp; omega
      have d0 : ((i : Int) < 5) = True := by simp; omega
      have w0 : IntKind.i64.wrap (1 + (i : Int)) = (i : Int) + 1 := by rw [wrap_i64m (by omega) (by omega)]; omega
      cases ha : covM ((i : Int) + 1) a
      · have H := Lib.hid (show ∀ j : Nat, j < i + 1 → (covM ((j : Int) + 1) a && covM ((j : Int) + 1) b) = false from fun j hj => by
          rcases Nat.lt_or_ge j i with h | h
          · exact hno.out j h
          · obtain rfl : j = i := by omega
            simp [ha])
        go_wp2_with fail
        refine (covers_any wr _ a).mono ?_
        rintro e w1 ⟨rfl, rfl⟩
        rw [ha]
        clear ha
        go_wp2_with fail
        go_roundw
        case rel => exact ⟨i + 1, by go_num, by omega, H, trivial⟩
        case measure => simp [intOf]; omega
      · cases hb : covM ((i : Int) + 1) b
        · have H := Lib.hid (show ∀ j : Nat, j < i + 1 → (covM ((j : Int) + 1) a && covM ((j : Int) + 1) b) = false from fun j hj => by
            rcases Nat.lt_or_ge j i with h | h
            · exact hno.out j h
            · obtain rfl : j = i := by omega
              simp [hb])
          go_wp2_with fail
          refine (covers_any wr _ a).mono ?_
          rintro e w1 ⟨rfl, rfl⟩
          rw [ha]
          go_wp2_with fail
          refine (covers_any w1 _ b).mono ?_
          rintro e w2 ⟨rfl, rfl⟩
          rw [hb]
          clear ha hb
          go_wp2_with fail
          go_roundw
          case rel => exact ⟨i + 1, by go_num, by omega, H, trivial⟩
          case measure => simp [intOf]; omega
        · have H := Lib.hid (show joinM a b = (i : Int) + 1 from join_at i hlt hno.out ha hb)
          go_wp2_with fail
          refine (covers_any wr _ a).mono ?_
          rintro e w1 ⟨rfl, rfl⟩
          rw [ha]
          go_wp2_with fail
          refine (covers_any w1 _ b).mono ?_
          rintro e w2 ⟨rfl, rfl⟩
          rw [hb]
          clear ha hb
          go_wp2_with fail
          go_ret
          exact ⟨by rw [H.out]; rfl, rfl⟩
    · obtain h5 : i = 5 := by omega
      have H := Lib.hid (show joinM a b = 0 from join_no (h5 ▸ hno.out))
      have d1 : decide ((i : Int) < 5) = false := by simp; omega
      have d0 : ((i : Int) < 5) = False := by simp; omega
      clear h5 hge
      go_wp2_with fail
      go_ret
      exact ⟨by rw [H.out]; rfl, rfl⟩
set_option maxRecDepth 100000 in
theorem may_any (w : World) (a : Int) : Calls Tryd.prog 68 #[.int .i64 a] w fun e w' => e = .returned (.int .i64 (mayM a)) ∧ w' = w := by
  rcases md_cases a with rfl | rfl | rfl | rfl | rfl | h
  case inr.inr.inr.inr.inr =>
    obtain ⟨h1, h2, h3, h4, h5⟩ := kn_ne h
    have b1 : (a == 1) = false := by simpa using h1
    have b2 : (a == 2) = false := by simpa using h2
    have b3 : (a == 3) = false := by simpa using h3
    have b4 : (a == 4) = false := by simpa using h4
    have b5 : (a == 5) = false := by simpa using h5
    rw [may_none h]
    clear h h1 h2 h3 h4 h5
    go_enter Tryd.func68, Tryd.ntmps68
    go_wp2_with fail
    go_ret
    exact ⟨rfl, rfl⟩
  all_goals
    go_enter Tryd.func68, Tryd.ntmps68
    go_wp2_with fail
    go_ret
    exact ⟨rfl, rfl⟩
set_option maxRecDepth 100000 in
set_option maxHeartbeats 4000000 in
theorem refFits_any (w : World) (a b : Int) : Calls Tryd.prog 47 #[.int .i64 a, .int .i64 b] w fun e w' => e = .returned (.bool (fitM a b)) ∧ w' = w := by
  rcases md_cases a with rfl | rfl | rfl | rfl | rfl | h
  case inr.inr.inr.inr.inr =>
    have hm := may_none h
    rw [fit_none _ h]
    clear h
    go_enter Tryd.func47, Tryd.ntmps47
    go_wp2_with fail
    refine (may_any w a).mono ?_
    rintro e w1 ⟨rfl, rfl⟩
    rw [hm]
    go_wp2_with fail
    refine (may_any w1 b).mono ?_
    rintro e w2 ⟨rfl, rfl⟩
    clear hm
    go_wp2_with fail
    go_ret
    exact ⟨rfl, rfl⟩
  all_goals rcases md_cases b with rfl | rfl | rfl | rfl | rfl | h
  case inr.inr.inr.inr.inr | inr.inr.inr.inr.inr | inr.inr.inr.inr.inr | inr.inr.inr.inr.inr | inr.inr.inr.inr.inr =>
    have hm := may_none h
    rw [fit_none2 _ h]
    clear h
    go_enter Tryd.func47, Tryd.ntmps47
    go_wp2_with fail
    refine (may_any w _).mono ?_
    rintro e w1 ⟨rfl, rfl⟩
    simp only [mayM]
    go_wp2_with fail
    refine (may_any w1 b).mono ?_
    rintro e w2 ⟨rfl, rfl⟩
    rw [hm]
    go_wp2_with fail
    go_ret
    exact ⟨rfl, rfl⟩
  all_goals
    go_enter Tryd.func47, Tryd.ntmps47
    go_wp2_with fail
    refine (may_any w _).mono ?_
    rintro e w1 ⟨rfl, rfl⟩
    simp only [mayM]
    go_wp2_with fail
    refine (may_any w1 _).mono ?_
    rintro e w2 ⟨rfl, rfl⟩
    simp only [mayM]
    go_wp2_with fail
    go_ret
    exact ⟨rfl, rfl⟩
end Go.Proofs.YtpdnehgboafgpaaDoor
