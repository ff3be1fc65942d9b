/-
  PLAIN MATHEMATICS: versions: what may be, the one at a stamp, what is read, one more, a vacuum. No program is named here; no condition beyond each theorem's own.
-/
import Derived.Test.YtemdcpajcaaphaaVer
namespace Go.Proofs.Ytemdcpajcaaphaa
def mayV (x : Ver) : Prop := 1 ≤ x.stamp ∧ x.stamp < 2147483648 ∧ x.value.length ≤ 32 ∧ (x.gone = true → x.value.length = 0)
instance (x : Ver) : Decidable (mayV x) := by unfold mayV; infer_instance
def okV (l : List Ver) : Prop := ∀ i (h : i < l.length), mayV l[i] ∧ (0 < i → l[i - 1].stamp < l[i].stamp)
instance (l : List Ver) : Decidable (okV l) := by unfold okV; infer_instance
/-- Of the first k versions: one more than the place of the last one whose stamp is not above s. -/
def lastAt (l : List Ver) (s : Int) : Nat → Nat
  | 0 => 0
  | k + 1 => if h : k < l.length then if l[k].stamp ≤ s then k + 1 else lastAt l s k else lastAt l s k
theorem lastAt_yes {l : List Ver} {s : Int} {k : Nat} (h : k < l.length) (hs : l[k].stamp ≤ s) : lastAt l s (k + 1) = k + 1 := by simp [lastAt, h, hs]
theorem lastAt_no {l : List Ver} {s : Int} {k : Nat} (h : k < l.length) (hs : ¬ l[k].stamp ≤ s) : lastAt l s (k + 1) = lastAt l s k := by simp [lastAt, h, hs]
theorem lastAt_le (l : List Ver) (s : Int) : ∀ k, lastAt l s k ≤ k
  | 0 => Nat.le_refl _
  | k + 1 => by
    have := lastAt_le l s k
    unfold lastAt
    split
    · split <;> omega
    · omega
/-- How many there are up to the one at a stamp. -/
def cntV (l : List Ver) (s : Int) : Nat := lastAt l s l.length
theorem cntV_le (l : List Ver) (s : Int) : cntV l s ≤ l.length := lastAt_le l s _
def readV (l : List Ver) (s : Int) : Option (List UInt8) :=
  if okV l then if h : 0 < cntV l s then if (l[cntV l s - 1]'(by have := cntV_le l s; omega)).gone then none else some (l[cntV l s - 1]'(by have := cntV_le l s; omega)).value else none else none
def newerV (l : List Ver) (s : Int) : Bool := decide (okV l) && (match l.getLast? with | some x => decide (s < x.stamp) | none => false)
def instV (l : List Ver) (x : Ver) : List Ver × Nat :=
  if okV l ∧ mayV x then (match l.getLast? with | some y => if x.stamp ≤ y.stamp then (l, 50) else (l ++ [x], 0) | none => (l ++ [x], 0)) else (l, 1)
def vacV (l : List Ver) (s : Int) : List Ver :=
  if okV l then if h : 0 < cntV l s then if (l[cntV l s - 1]'(by have := cntV_le l s; omega)).gone then l.drop (cntV l s) else l.drop (cntV l s - 1) else l else l
end Go.Proofs.Ytemdcpajcaaphaa
