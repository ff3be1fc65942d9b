/-
  VERSIONS: how one lies in cells; lists of versions. No condition beyond each theorem's own.
-/
import Derived.WalkKit
import Derived.Test.YtemdcpajcaaphaaProg
import Derived.Test.YtemdcpajcaaphaaElt
import Derived.Test.YtemdcpajcaaphaaEll
import Derived.Test.YtemdcpajcaaphaaTri
namespace Go.Proofs.Ytemdcpajcaaphaa
open Go.RowKit
structure Ver where
  stamp : Int
  gone : Bool
  value : List UInt8
deriving DecidableEq
def I64' (s : Int) : Prop := -9223372036854775808 ≤ s ∧ s ≤ 9223372036854775807
/-- A version's cells. -/
def verC (x : Ver) (v : Value) : List Value := [.int .i64 x.stamp, .bool x.gone, v]
def Elt.ver : Elt Ver where
  size := 3
  pos := by omega
  R S w x vs := ∃ v, vs = verC x v ∧ RdS S w v x.value ∧ I64' x.stamp
  len := by rintro _ _ _ _ ⟨_, rfl, _⟩; rfl
  keep := by rintro _ _ _ _ _ ⟨v, rfl, h, h2⟩ hk; exact ⟨v, rfl, h.keep hk, h2⟩
  weak := by rintro _ _ _ _ _ ⟨v, rfl, h, h2⟩ hk; exact ⟨v, rfl, h.weak hk, h2⟩
  fit := by rintro _ _ _ _ ⟨v, rfl, h, h2⟩; exact ⟨v, rfl, h.fit, h2⟩
  one := by
    rintro _ _ _ _ ⟨v, rfl, h, _⟩ u hu
    have h1 := h.one
    simp only [verC, List.mem_cons, List.not_mem_nil, or_false] at hu
    rcases hu with rfl | rfl | rfl
    · rfl
    · rfl
    · exact h1
theorem verP : LoP Try.prog 22 25 3 := ⟨⟨by kernel_rfl, by kernel_rfl⟩, .agg #[.int .i64 0, .bool false, .slice none 0 0], 40, by kernel_rfl, rfl, by omega⟩
theorem verS : StP Try.prog 25 3 := StP.of (by kernel_rfl)
/-- A version of a list: its cells. -/
theorem RdL.ver {S : Nat → Prop} {w : World} {a : Option Addr} {n c : Nat} {l : List Ver} (h : RdL Elt.ver S w (.slice a n c) l) (r : Nat) (hr : r < l.length) :
    ∃ b off A C, a = some ⟨b, off, none⟩ ∧ S b ∧ w.cell? ⟨b, off + r * 3, none⟩ = some (.int .i64 l[r].stamp) ∧ w.cell? ⟨b, off + r * 3 + 1, none⟩ = some (.bool l[r].gone) ∧ w.cell? ⟨b, off + r * 3 + 2, none⟩ = some (.slice A l[r].value.length C) ∧
      RdS S w (.slice A l[r].value.length C) l[r].value ∧ I64' l[r].stamp ∧ l[r].value.length ≤ C ∧ C ≤ maxLen := by
  obtain ⟨b, off, vs, rfl, hb, ⟨v, rfl, hv, hi⟩, hc⟩ := h.at r hr
  obtain ⟨A, C, rfl, h1, h2⟩ := hv.shape
  exact ⟨b, off, A, C, rfl, hb, hc 0 _ rfl, hc 1 _ rfl, hc 2 _ rfl, hv, hi, h1, h2⟩
end Go.Proofs.Ytemdcpajcaaphaa
