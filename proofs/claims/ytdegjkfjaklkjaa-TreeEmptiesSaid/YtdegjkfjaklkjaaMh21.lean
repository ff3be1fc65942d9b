/-
  TEXTS OF ONE PROOF, merged: TrbJ.
-/
import Derived.Test.YtdegjkfjaklkjaaProg
import Derived.WalkKit
import Derived.Test.YtdegjkfjaklkjaaMh1
import Derived.Test.YtdegjkfjaklkjaaMh2
import Derived.Test.YtdegjkfjaklkjaaMh3
import Derived.Test.YtdegjkfjaklkjaaMh13
import Derived.Test.YtdegjkfjaklkjaaMh15
namespace Go.Proofs.Ytdegjkfjaklkjaa
open Go.RowKit
theorem small_few {n : Nd} (hs : smallB 5 n = true) (hk : okN n) : (pairsN n).length ≤ 1023 ∧ ∀ p ∈ pairsN n, smallV p.chain := by
  have h1 := small_deep 5 (root := true) hs
  have h0 := hk.1
  obtain ⟨d, hd⟩ : ∃ d : Nat, formI n true = (d : Int) := ⟨(formI n true).toNat, by omega⟩
  have h2 := (pairs_bounds d hd).2.1
  have h3 : 4 ^ d ≤ 4 ^ 5 := Nat.pow_le_pow_right (by omega) (by omega)
  obtain ⟨d2, hp⟩ := ok_pn hk
  exact ⟨by omega, bnd_small d2 hp.wf (small5_fit hs).2⟩
def sgVP (l : List Pr) : SG := ⟨fun w v => ∃ a k c, v = .slice a k c ∧ RdL Elt.pair (fun _ => True) w (.slice a k c) l, fun _ _ _ ⟨a, k, c, e, h⟩ hb => ⟨a, k, c, e, h.below hb⟩⟩
theorem dep_none {n : Nd} (hk : okN n) (h : pairsN n = []) : depN n = 1 := by
  have h0 := hk.1
  obtain ⟨d, hd⟩ : ∃ d : Nat, formI n true = (d : Int) := ⟨(formI n true).toNat, by omega⟩
  obtain ⟨h1, _, h2⟩ := pairs_bounds d hd
  rw [h] at h2
  unfold depN
  rw [if_pos hk, hd]
  rcases h2 with h2 | ⟨_, rfl, _⟩
  · have := Nat.pow_le_pow_right (n := 2) (by omega) h1
    simp at h2
    omega
  · rfl
def keyAt (l : List Pr) (m : Nat) : List UInt8 := (l.map (·.key)).getD m []
def dlP (l : List Pr) (fr : Nat) : Nat → List Pr
  | 0 => l
  | i + 1 => delP (dlP l fr i) (keyAt l ((i + fr) % l.length))
theorem keyAt_get {l : List Pr} {m : Nat} (h : m < l.length) : keyAt l m = l[m].key := by
  unfold keyAt
  rw [List.getD_eq_getElem?_getD, List.getElem?_eq_getElem (by rw [List.length_map]; exact h), List.getElem_map]
  rfl
theorem dl_srt {l : List Pr} (h : Srt l) (fr : Nat) : ∀ i, Srt (dlP l fr i)
  | 0 => h
  | i + 1 => del_srt (dl_srt h fr i)
theorem dl_mem {l : List Pr} (fr : Nat) : ∀ i, ∀ p ∈ dlP l fr i, p ∈ l
  | 0, _, h => h
  | i + 1, _, h => dl_mem fr i _ (del_mem h)
theorem dl_find {l : List Pr} (fr : Nat) : ∀ (i : Nat) (k : List UInt8), (∀ j, j < i → keyAt l ((j + fr) % l.length) ≠ k) → findP (dlP l fr i) k = findP l k
  | 0, _, _ => rfl
  | i + 1, k, h => by
    rw [dlP, del_find, if_neg (h i (Nat.lt_succ_self i))]
    exact dl_find fr i k fun j hj => h j (Nat.lt_succ_of_lt hj)
theorem key_inj {l : List Pr} (hs : Srt l) {a b : Nat} (ha : a < l.length) (hb : b < l.length) (h : keyAt l a = keyAt l b) : a = b := by
  rw [keyAt_get ha, keyAt_get hb] at h
  rcases Nat.lt_trichotomy a b with h1 | h1 | h1
  · exact absurd h (ltB_ne (srt_get hs h1 hb))
  · exact h1
  · exact absurd h.symm (ltB_ne (srt_get hs h1 ha))
theorem mod_apart {i j fr L : Nat} (hj : j < i) (hi : i < L) : (j + fr) % L ≠ (i + fr) % L := fun h => by
  have h1 : (i + fr - (j + fr)) % L = 0 := Nat.sub_mod_eq_zero_of_mod_eq h.symm
  rw [show i + fr - (j + fr) = i - j by omega, Nat.mod_eq_of_lt (by omega)] at h1
  omega
theorem dl_there {l : List Pr} (hs : Srt l) (fr : Nat) {i : Nat} (hi : i < l.length) : (findP (dlP l fr i) (keyAt l ((i + fr) % l.length))).isSome = true := by
  have hm : (i + fr) % l.length < l.length := Nat.mod_lt _ (by omega)
  rw [dl_find fr i _ fun j hj h => mod_apart hj hi (key_inj hs (Nat.mod_lt _ (by omega)) hm h), keyAt_get hm, findP_mem hs (List.getElem_mem hm)]
  rfl
theorem dl_len {l : List Pr} (hs : Srt l) (fr : Nat) : ∀ i, i ≤ l.length → (dlP l fr i).length + i = l.length
  | 0, _ => rfl
  | i + 1, h => by
    have h1 := dl_len hs fr i (by omega)
    have h2 := del_len (dl_srt hs fr i) (k := keyAt l ((i + fr) % l.length))
    rw [if_pos (dl_there hs fr (by omega))] at h2
    rw [dlP]
    omega
section
variable {P : Program} {o : Oper} {a : Act} {K : Act → World → Prop} {Q : Exit → Act → World → Prop} {w : World}
theorem wp_convU8 {t t2 : TypeId} {x : Operand} {n : Int} (ho : o.op = .convert t t2 x) (h1 : P.underlying t = some (.int .u8)) (h2 : P.underlying t2 = some (.int .i64)) (hx : a.eval x = .int .u8 n) (h0 : 0 ≤ n) (hn : n ≤ 255) (h : K (a.put o.dst (.int .i64 n)) w) : o.wp P a w K Q := by
  refine wp_run ?_ h
  simp only [execOp, ho, hx]
  simp [convert, run_underlying h1, run_underlying h2, go_sem, IntWalk.i64_in n ⟨by omega, by omega⟩]
theorem wp_subJ {t t2 : TypeId} {x y : Operand} {m n : Int} (ho : o.op = .binOp .sub t x y t2) (hx : a.eval x = .int .i64 m) (hy : a.eval y = .int .i64 n) (h0 : -9223372036854775808 ≤ m - n) (h1 : m - n ≤ 9223372036854775807) (h : K (a.put o.dst (.int .i64 (m - n))) w) : o.wp P a w K Q := by
  refine wp_run (v := .int .i64 (m - n)) ?_ h
  simp only [execOp, ho, hx, hy]
  simp [binOp, go_sem, IntWalk.i64_in _ ⟨h0, h1⟩]
theorem wp_remI {t t2 : TypeId} {x y : Operand} {m n : Int} (ho : o.op = .binOp .rem t x y t2) (hx : a.eval x = .int .i64 m) (hy : a.eval y = .int .i64 n) (h0 : 0 ≤ m) (hn : 0 < n) (h : K (a.put o.dst (.int .i64 (m % n))) w) : o.wp P a w K Q := by
  refine wp_run (v := .int .i64 (m % n)) ?_ h
  simp only [execOp, ho, hx, hy]
  have hne : n ≠ 0 := by omega
  have e1 : m.tmod n = m % n := Int.tmod_eq_emod_of_nonneg h0
  simp [eqGuard, binOp, go_sem, hne, e1]
end
end Go.Proofs.Ytdegjkfjaklkjaa
