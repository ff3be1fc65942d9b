/-
  THE WALKS OF bytes.Clone AND OF THE DOCUMENT's Number AND Size; THE PLAIN MATHEMATICS OF first. Slices of at most a million bytes.
-/
import Derived.WalkKit
import Derived.WalkSpells
import Derived.WalkLawsBesides
import Derived.Lib.Hide
import Derived.Test.YtemdcpajcaaphaaProg
import Derived.Test.YtemdcpajcaaphaaNum
import Derived.Test.YtemdcpajcaaphaaByte
import Derived.Test.YtemdcpajcaaphaaAux
namespace Go.Proofs.Ytemdcpajcaaphaa
open Go.RowKit

theorem clone_any (w : World) {B : Nat} {ad : Option Addr} {n c : Nat} {xs : List UInt8} (hr : Rd B w (.slice ad n c) xs) (hB : B ≤ w.heap.size) (hx : xs.length ≤ 1000000) :
    Calls Try.prog 24 #[.slice ad n c] w fun e w' => ∃ ad' k c', e = .returned (.slice ad' k c') ∧ Fresh 5 w w' (.slice ad' k c') xs := by
  have he := fun (w : World) (ad : Option Addr) (n c : Nat) => Lib.run_eql_slice_nil (P := Try.prog) w 23 5 ad n c 0 0 byP.hT
  obtain ⟨rfl, _, _⟩ := hr.len
  cases ad with
  | none =>
    have hr' := hr
    rcases hr with ⟨_, _, h, _, rfl⟩ | ⟨_, _, _, h, _⟩
    · go_enter Try.func24, Try.ntmps24
      go_wp2
      go_ret
      exact ⟨_, _, _, rfl, Fresh.nil _ _⟩
    · cases h
  | some p =>
    go_enter Try.func24, Try.ntmps24
    go_wp2_with (first
      | (refine wpList_build byP rfl rfl [] (by kernel_rfl) rfl (by simp) ?_; intro g k1 w1 hF)
      | (at_builtin; refine wpList_append byP rfl rfl rfl hF.2 rfl (hr.below (hF.1.mono hB)) hF.1.size ?_ ?hlen; intro ad' k' c' w2 hO hg hb))

    case hlen => simp; omega
    go_ret
    exact ⟨_, _, _, rfl, hF.1.trans hb, hO⟩


/-- What 'first' hands back. -/
def firstS (b : List UInt8) : Nat × Nat := (takeN b).getD (0, 0)

/-- Between two bytes: s bytes have been read, each of which goes on; they tell acc. -/
def FirstAt (xs : List UInt8) (s acc : Nat) : Prop := s ≤ 5 ∧ s ≤ xs.length ∧ acc < 128 ^ s ∧ dec 5 xs = (dec (5 - s) (xs.drop s)).map fun p => (acc + 128 ^ s * p.1, s + p.2)

theorem FirstAt.start (xs : List UInt8) : FirstAt xs 0 0 := ⟨by omega, by omega, by omega, by simp⟩
theorem FirstAt.out {xs : List UInt8} {s acc : Nat} (h : FirstAt xs s acc) (hs : s = xs.length ∨ s = 5) : firstS xs = (0, 0) := by
  obtain ⟨h5, hl, _, hd⟩ := h
  have : dec (5 - s) (xs.drop s) = none := by
    rcases hs with rfl | rfl
    · rw [List.drop_length]; cases h : 5 - xs.length <;> simp [dec]
    · simp [dec]
  rw [this] at hd
  simp [firstS, takeN, hd]
theorem FirstAt.drop {xs : List UInt8} {s : Nat} (h : s < xs.length) : xs.drop s = xs[s] :: xs.drop (s + 1) := by rw [List.drop_eq_getElem_cons h]
theorem FirstAt.next {xs : List UInt8} {s acc : Nat} (h : FirstAt xs s acc) (hs : s < xs.length) (h5 : s < 5) (hx : 128 ≤ xs[s].toNat) : FirstAt xs (s + 1) (acc + xs[s].toNat % 128 * 128 ^ s) := by
  obtain ⟨_, hl, ha, hd⟩ := h
  have h256 := xs[s].toNat_lt
  refine ⟨by omega, by omega, ?_, ?_⟩
  · rw [Nat.pow_succ]
    have : xs[s].toNat % 128 * 128 ^ s ≤ 127 * 128 ^ s := Nat.mul_le_mul_right _ (by omega)
    omega
  · rw [hd, FirstAt.drop hs, show 5 - s = (5 - (s + 1)) + 1 by omega, dec, if_neg (by omega)]
    cases dec (5 - (s + 1)) (xs.drop (s + 1)) with
    | none => rfl
    | some p =>
      simp only [Option.map_some]
      congr 2
      · have e : xs[s].toNat - 128 = xs[s].toNat % 128 := by omega
        rw [e, Nat.mul_add, Nat.pow_succ]
        rw [Nat.mul_comm (128 ^ s) (xs[s].toNat % 128), Nat.mul_assoc (128 ^ s) 128 p.1]
        omega
      · omega
theorem FirstAt.last {xs : List UInt8} {s acc : Nat} (h : FirstAt xs s acc) (hs : s < xs.length) (h5 : s < 5) (hx : xs[s].toNat < 128) :
    dec 5 xs = some (acc + xs[s].toNat % 128 * 128 ^ s, s + 1) := by
  obtain ⟨_, hl, ha, hd⟩ := h
  rw [hd, FirstAt.drop hs, show 5 - s = (5 - (s + 1)) + 1 by omega, dec, if_pos hx]
  simp only [Option.map_some]
  rw [Nat.mod_eq_of_lt hx, Nat.mul_comm]
theorem firstS_yes {xs : List UInt8} {n s : Nat} (hd : dec 5 xs = some (n, s + 1)) (hs : s < xs.length) (hn : n ≤ 2147483647) (h0 : s = 0 ∨ xs[s].toNat ≠ 0) : firstS xs = (n, s + 1) := by
  have hc : numB n = xs.take (s + 1) := by
    rw [numB_canon 5 xs n (s + 1) hd]
    rcases h0 with rfl | h0
    · exact .inl rfl
    · refine .inr ?_
      simp [List.getD, hs]
      intro he; apply h0; rw [he]; rfl
  simp [firstS, takeN, hd, hn, hc]
theorem firstS_no {xs : List UInt8} {n s : Nat} (hd : dec 5 xs = some (n, s + 1)) (hs : s < xs.length) (h : 2147483647 < n ∨ (s ≠ 0 ∧ xs[s].toNat = 0)) : firstS xs = (0, 0) := by
  have hc : ¬ (n ≤ 2147483647 ∧ numB n = xs.take (s + 1)) := by
    rintro ⟨h1, h2⟩
    rw [numB_canon 5 xs n (s + 1) hd] at h2
    rcases h with h | ⟨h3, h4⟩
    · omega
    · rcases h2 with h2 | h2
      · omega
      · apply h2
        simp [List.getD, hs]
        exact UInt8.toNat_inj.1 (by simpa using h4)
  simp only [firstS, takeN, hd, if_neg hc]
  rfl

end Go.Proofs.Ytemdcpajcaaphaa
