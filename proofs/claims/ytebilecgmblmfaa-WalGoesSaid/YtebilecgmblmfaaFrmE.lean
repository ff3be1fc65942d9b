/-
  THE WALKS OF frame's frames AND OF ITS ITERATOR: the texts that bytes are, handed over one by one. Slices of at most a million bytes.
-/
import Derived.RangeFuncNested
import Derived.RangeFuncBox
import Derived.RangeFuncBound
import Derived.RangeFuncCalls
import Derived.RangeFuncLeaves
import Derived.Shelf.Abstract
import Derived.Shelf.RegionOpen
import Derived.WalkKit
import Derived.OwnWalkIn
import Derived.TacticsInMore
import Derived.LoopNIn
import Derived.LoopIn
import Derived.Maps.AppendAt
import Derived.Lib.Hide
import Derived.Deep.Cut
import Derived.Sort.CutIn
import Derived.Test.YtebilecgmblmfaaCut
import Derived.WalkMore
import Derived.ScopeJumps
import Derived.Test.YtebilecgmblmfaaProg
import Derived.Test.YtebilecgmblmfaaByte
import Derived.Test.YtebilecgmblmfaaAux
import Derived.Test.YtebilecgmblmfaaFrmB
namespace Go.Proofs.Ytebilecgmblmfaa
open Go.RowKit Go.Shelf
attribute [local go_sem] Oper.semAt_some

/-- A text that the iterator hands over: a part of what it was given, and its text. -/
structure Piece where
  ad : Option Addr
  c : Nat
  t : List UInt8
  le : t.length ≤ 2000
def Piece.hd (p : Piece) : Value := .slice p.ad p.t.length p.c
def Piece.enc (p : Piece) : Array Value := #[.slice p.ad p.t.length p.c, .int .i64 ((frameB p.t).length : Nat)]

/-- What the caller's round must keep: what lay below n₀, and the blocks from lo to hi. -/
def KpF (n₀ lo hi : Nat) (A B : World) : Prop := Below n₀ A B ∧ ∀ k, lo ≤ k → k < hi → B.heap[k]? = A.heap[k]?
theorem KpF.trans {n₀ lo hi : Nat} {A B C : World} (h : KpF n₀ lo hi A B) (k : KpF n₀ lo hi B C) : KpF n₀ lo hi A C := ⟨h.1.trans k.1, fun i h1 h2 => (k.2 i h1 h2).trans (h.2 i h1 h2)⟩
theorem KpF.refl (n₀ lo hi : Nat) (A : World) : KpF n₀ lo hi A A := ⟨Below.refl _ _, fun _ _ _ => rfl⟩

/-- The value reads as these bytes, its block lies from lo to hi. -/
def RdIn (lo hi : Nat) (w : World) (v : Value) (xs : List UInt8) : Prop :=
  (∃ a c, v = .slice a 0 c ∧ c ≤ maxLen ∧ xs = []) ∨
  ∃ b off cap, v = .slice (some ⟨b, off, none⟩) xs.length cap ∧ lo ≤ b ∧ b < hi ∧ xs.length ≤ cap ∧ cap ≤ maxLen ∧ ∀ j u, (bv xs)[j]? = some u → w.cell? ⟨b, off + j, none⟩ = some u
theorem RdIn.rd {lo hi : Nat} {w : World} {v : Value} {xs : List UInt8} (h : RdIn lo hi w v xs) : Rd hi w v xs := by
  rcases h with h | ⟨b, off, cap, h1, h2, h3, h4⟩
  · exact .inl h
  · exact .inr ⟨b, off, cap, h1, h3, h4⟩
theorem RdIn.kept {lo hi : Nat} {w w' : World} {v : Value} {xs : List UInt8} (h : RdIn lo hi w v xs) (hk : ∀ k, lo ≤ k → k < hi → w'.heap[k]? = w.heap[k]?) : RdIn lo hi w' v xs := by
  rcases h with h | ⟨b, off, cap, h1, h2, h3, h4, h5, h6⟩
  · exact .inl h
  · exact .inr ⟨b, off, cap, h1, h2, h3, h4, h5, fun j u hj => by rw [← h6 j u hj]; simp [World.cell?, hk b h2 h3]⟩
theorem Own.rdIn {E : TypeId} {base : Nat} {w : World} {v : Value} {xs : List UInt8} (h : Own E base w v xs) : RdIn base w.heap.size w v xs := by
  obtain ⟨n, h⟩ := h
  have hr := Own.rd ⟨n, h⟩
  rcases h.2 with ⟨rfl, h0⟩ | ⟨g, cap, cur, rfl, hb, hg, hn, hc, hcs, ht⟩
  · exact .inl ⟨none, 0, rfl, by unfold maxLen; omega, by obtain rfl := own_n h; exact List.eq_nil_of_length_eq_zero h0⟩
  · rcases hr with h | ⟨b, off, cap', hv, hb', h1, h2, h3⟩
    · exact .inl h
    · cases hv
      exact .inr ⟨_, _, _, rfl, hb, hb', h1, h2, h3⟩

/-- A part of what lies from lo to hi lies there, too. -/
theorem RdIn.part {lo hi : Nat} {w w' : World} {ad ad' : Option Addr} {n c n' c' : Nat} {xs ys : List UInt8} (h : RdIn lo hi w (.slice ad n c) xs) (hr : Rd hi w' (.slice ad' n' c') ys) (hb : ys = [] ∨ ad'.map (·.block) = ad.map (·.block)) (hne : xs = [] → ys = []) : RdIn lo hi w' (.slice ad' n' c') ys := by
  by_cases h0 : ys = []
  · subst h0
    obtain ⟨h1, h2, h3⟩ := hr.len
    cases h1
    exact .inl ⟨_, _, rfl, h3, rfl⟩
  · rcases hr with ⟨_, _, _, _, he⟩ | ⟨b, off, cap, hv, h1, h2⟩
    · exact absurd he h0
    · cases hv
      rcases h with ⟨_, _, _, _, he⟩ | ⟨b2, off2, cap2, hv2, h3, _⟩
      · exact absurd (hne he) h0
      · cases hv2
        have : b = b2 := by rcases hb with hb | hb; exact absurd hb h0; simpa using hb
        exact .inr ⟨b, off, _, rfl, by omega, h1, h2⟩
theorem headF_nil : headF [] = [] := (headF_none readF_nil).1
def lenV : Value → Nat
  | .slice _ n _ => n
  | _ => 0

theorem grown_of_below {W W' : World} (h : Below W.heap.size W W') : W.grownBy W' none := ⟨h.os, h.tape, h.output, h.size, fun k hk _ => h.block k hk⟩

set_option maxRecDepth 100000 in
set_option maxHeartbeats 1000000 in
theorem frames1_in (l Bn n₀ lo hi : Nat) (xs : List UInt8) (hx : xs.length ≤ 1000000) (ad : Option Addr) (n c : Nat) (J Jx : List Piece → World → Prop) (W : World)
    (hAb : AbidesFrom W.heap.size J) (hhi : hi ≤ W.heap.size)
    (hY : ∀ pre x W1, J pre W1 → pre.length < (textsF xs).length → YieldAt Fence.wide 1 Try.prog l x.enc W1 fun e W' =>
      (e = .returned (.bool true) ∧ J (pre ++ [x]) W' ∧ KpF n₀ lo hi W1 W') ∨ (e = .returned (.bool false) ∧ Jx (pre ++ [x]) W'))
    (hBn : W.cell? ⟨Bn, 0, none⟩ = some (.slice ad n c)) (hr : RdIn lo hi W (.slice ad n c) xs) (h0 : J [] W) :
    CallsIn Fence.wide 2 Try.prog 45 #[.func (.yield l) #[] #[], .pointer (some ⟨Bn, 0, none⟩)] W fun e W' => (∃ v, e = .returned v) ∧
      ((∃ ys : List Piece, (ys.map (·.t) = textsF xs ∧ ∀ y ∈ ys, RdIn lo hi W y.hd y.t) ∧ J ys W') ∨ (∃ pre, True ∧ Jx pre W')) := by
  refine callsIn_of_wp Try.func45 rfl trivial ?_ rfl
  simp only [Try.ntmps45, List.size_toArray, List.length_cons, List.length_nil, Nat.reduceAdd, Nat.reduceSub, Array.replicate_succ, Array.replicate_zero, List.push_toArray, List.append_toArray, List.nil_append, List.cons_append]
  refine wpIn_wide.2 ?_
  go_step3
  go_wp2
  go_step3
  rename_i hk
  refine hk _ _ ?_
  refine (wpIn_wide (n := 2)).1 ?_
  clear hk
  gi_wp2
  gi_loopw [3] (fun p wr => ∃ (pre : List Piece) (rest : List UInt8) (ad2 : Option Addr) (k2 c2 : Nat), p = .slice ad2 k2 c2 ∧ RdIn lo hi wr (.slice ad2 k2 c2) rest ∧ textsF xs = pre.map (·.t) ++ textsF rest ∧ (∀ y ∈ pre, RdIn lo hi W y.hd y.t) ∧
      (∀ k, lo ≤ k → k < hi → wr.heap[k]? = W.heap[k]?) ∧ J pre wr ∧ W.heap.size ≤ wr.heap.size ∧ rest.length ≤ 1000000)
    (fun p _ => lenV p)
  case atStart =>
    exact ⟨[], xs, ad, n, c, rfl, hr, rfl, by simp, fun _ _ _ => rfl, h0, Nat.le_refl _, hx⟩
  case round =>
    obtain ⟨pre, rest, ad2, k2, c2, rfl, hr2, hte, hpre, hkeep, hJ, hsz, hx2⟩ := hrel
    obtain ⟨rfl, hnc2, hcm2⟩ := hr2.rd.len
    have hh := head_any wr hr2.rd (Nat.le_trans hhi hsz) hx2
    unfold HeadEnd at hh
    cases hrd : readF rest with
    | none =>
      have h1 := headF_none hrd
      rw [h1.1, h1.2] at hh
      have ht := Lib.hid (textsF_none hrd)
      clear hrd h1
      refine wpIn_wide.2 ?_
      go_wp2_with (go_at_call 46; refine hh.mono ?_; rintro e w1 ⟨ad3, k3, c3, rfl, hr3, hb3, _⟩)
      simp only [Exit.noGoto]
      go_end0
      refine ⟨⟨_, rfl⟩, .inl ⟨pre, ⟨by rw [hte, ht.out, List.append_nil], hpre⟩, ?_⟩⟩
      exact hAb _ _ _ none hJ (grown_of_below hb3) (by simp)
    | some t =>
      have h1 := headF_some hrd
      have hle := readF_len hrd
      have hrs := readF_some hrd
      rw [h1.1, h1.2] at hh
      have ht := Lib.hid (textsF_some hrd)
      obtain ⟨z, hz⟩ : ∃ z, z = (frameB t).length := ⟨_, rfl⟩
      have hY' := hY
      unfold Piece.enc at hY'
      rw [← hz] at hh hle
      have hne : ((z : Int) == 0) = false := by simp; omega
      have HZ := Lib.hid hz
      clear hrd h1 hrs hz
      refine wpIn_wide.2 ?_
      go_upto_region 3 with (go_at_call 46; refine hh.mono ?_; rintro e w1 ⟨ad3, k3, c3, rfl, hr3, hb3, hbl⟩)
      refine (wpIn_wide (n := 2)).1 ?_
      obtain rfl := hr3.len.1
      have hlt : pre.length < (textsF xs).length := by rw [hte, ht.out]; simp
      have hrt : RdIn lo hi w1 (.slice ad3 t.length c3) t := hr2.part hr3 hbl (fun h => by subst h; simp at hle; omega)
      have hk1 : ∀ k, lo ≤ k → k < hi → w1.heap[k]? = W.heap[k]? := fun k h1 h2 => (hb3.block k (by omega)).trans (hkeep k h1 h2)
      have hJ1 := hAb _ _ _ none hJ (grown_of_below hb3) (by simp)
      obtain ⟨x, ex⟩ : ∃ x : Piece, x = ⟨ad3, c3, t, hle.2.2.2⟩ := ⟨_, rfl⟩
      have hyY : YieldAt Fence.wide 1 Try.prog l #[.slice ad3 t.length c3, .int .i64 (z : Nat)] w1 fun e W' =>
          (e = .returned (.bool true) ∧ J (pre ++ [x]) W' ∧ KpF n₀ lo hi w1 W') ∨ (e = .returned (.bool false) ∧ Jx (pre ++ [x]) W') := by
        rw [HZ.out]
        have := hY pre x w1 hJ1 hlt
        rw [ex] at this
        rw [ex]
        exact this
      obtain ⟨fn, tmps, assign, body, hy, hR⟩ := hyY
      clear hY hY'
      gi_wp2
      refine hR.mono ?_
      rintro e W3 (⟨rfl, hJ3, hk3⟩ | ⟨rfl, hJx3⟩)
      · have hkA : ∀ k, lo ≤ k → k < hi → W3.heap[k]? = W.heap[k]? := fun k h1 h2 => (hk3.2 k h1 h2).trans (hk1 k h1 h2)
        have hr4 : RdIn lo hi W3 (.slice ad2 rest.length c2) rest := hr2.kept fun k h1 h2 => (hkA k h1 h2).trans (hkeep k h1 h2).symm
        have hrx : RdIn lo hi W x.hd x.t := by
          rw [ex]
          exact hrt.kept fun k h1 h2 => (hk1 k h1 h2).symm
        have hsz3 : W.heap.size ≤ W3.heap.size := Nat.le_trans hsz (Nat.le_trans hb3.size hk3.1.size)
        have hxt : x.t = t := by rw [ex]
        clear ex hrt hk1 hJ1 hkeep hr2 hr3 hbl hy hR hk3 hlt hJ hh
        gi_wp2
        go_wp2_with (refine wpList_sliceB byP rfl rfl rfl hr4.rd (run_bounds_l' _ (l := z) rfl hle.1) ?_ hle.1 (Nat.le_refl _); intro ad5 k5 c5 hr5 hbl5)
        go_roundw
        case rel =>
          have e : (rest.drop z).take (rest.length - z) = rest.drop z := List.take_of_length_le (by simp)
          rw [e] at hr5
          refine ⟨pre ++ [x], rest.drop z, ad5, k5, c5, rfl, hr4.part hr5 (.inr hbl5) (fun h => by subst h; simp), ?_, ?_, hkA, hJ3, hsz3, by simp; omega⟩
          · rw [hte, ht.out, HZ.out, List.map_append, List.append_assoc, List.map_cons, hxt]; rfl
          · intro y hy
            rcases List.mem_append.1 hy with hy | hy
            · exact hpre y hy
            · obtain rfl : y = x := by simpa using hy
              exact hrx
        case measure =>
          have := hr5.len.1
          simp [lenV] at this ⊢
          omega
      · gi_wp2
        go_wp2
        simp only [Exit.noGoto]
        go_end0
        exact ⟨⟨_, rfl⟩, .inr ⟨_, trivial, hJx3⟩⟩

theorem frames_stops (Bn n₀ lo hi : Nat) (xs : List UInt8) (hx : xs.length ≤ 1000000) (ad : Option Addr) (n c : Nat) (w : World) (hhi : hi ≤ w.heap.size) (hBn : w.cell? ⟨Bn, 0, none⟩ = some (.slice ad n c)) (hB : Bn < w.heap.size) (hr : RdIn lo hi w (.slice ad n c) xs) :
    SeqStopsK Fence.wide 2 Try.prog 45 #[.pointer (some ⟨Bn, 0, none⟩)] Piece.enc (KpF n₀ lo hi) (fun ys => ys.map (·.t) = textsF xs ∧ ∀ y ∈ ys, RdIn lo hi w y.hd y.t) (fun _ => True) (textsF xs).length w := fun l J Jx W hW hAb _ hY h0 => by
  refine (frames1_in l Bn n₀ lo hi xs hx ad n c J Jx W hAb (Nat.le_trans hhi hW.size) hY ((hW.cell (p := ⟨Bn, 0, none⟩) hB).trans hBn) (hr.kept fun k _ h => hW.block k (by omega)) h0).mono ?_
  rintro e W' ⟨he, ⟨ys, ⟨h1, h2⟩, h3⟩ | h⟩
  · exact ⟨he, .inl ⟨ys, ⟨h1, fun y hy => (h2 y hy).kept fun k _ h => (hW.block k (by omega)).symm⟩, h3⟩⟩
  · exact ⟨he, .inr h⟩

theorem frames_any (v : Value) (ad : Option Addr) (n c : Nat) (hv : v = .slice ad n c) (w : World) :
    Calls Try.prog 40 #[v] w fun e w' => e = .returned (.func (.func 45) #[] #[.pointer (some ⟨w.heap.size, 0, none⟩)]) ∧ w' = w.alloc (.cells #[.slice ad n c] 22) := by
  subst hv
  go_enter Try.func40, Try.ntmps40
  go_wp2
  go_ret
  exact ⟨rfl, rfl⟩
end Go.Proofs.Ytebilecgmblmfaa
