/-
  NARROWER THAN 'FOR EVERY INPUT', by the rows' own cells (each row's printed sentence says how): LockTells: laid · LockMay: laid · LockAlone: laid.
  DERIVED. THE GIVEN ROWS OF THIS SEAT. 3 by the template 'for every input the law returns true; each argument reads behind the call as it read before'; 0 by the template 'total and deterministic' (their statements: YtccoklhmbikfmaaDoorTotals.lean).
  GIVEN WITH THE SEED: the statements are not yours to turn. If you find one false, say at which input.
  Laid BY PROGRAM, IN A SANDBOX (cutbox-rows.mjs): the forced cells as the released guide's own fill.sh prints them over the translation f384cb1810bb0e2c… (all of the seat's roots in one cut). By AI agents, Wed Nov 11 2026. No macro, syntax, notation, axiom, sorry.
-/
import Derived.Test.YtccoklhmbikfmaaDoorChecked
import GoSem.Claim
import GoSem.ClaimJoined
import GoSem.ClaimMapViews
import Derived.JoinedTies
import Derived.KernelRfl
namespace Go.Proofs.YtccoklhmbikfmaaDoor
/- THE CELL 'sum', in the pinned program and in every row, IS THE sha256 OF THE DUMP (.gsa) THAT YtccoklhmbikfmaaDoorProg.lean LOADS. Nothing in Lean hashes anything: it is a label: what it is worth is what the hold of that sum in a sandbox is worth. -/
noncomputable def Tryd.pinned : Pinned := { name := "ytccoklhmbikfmaadoor", sum := "f384cb1810bb0e2c07833eeafd5b4662610d9d3e43d076a68df65bec07906470", checked := Tryd.checked }
namespace Rows
def none {H : Type} : Left H := { results := [], args := [] }

/- WHAT THE LISTED PACKAGE-LEVEL VARIABLES READ AS WHEN THE CALL BEGINS. Each datum BY PROGRAM (the guide's laid-datum.mjs) off the statement by which the dump's own 'gosem.cut.vars' lays the variable. In a bare row this is a premise. The card (YtccoklhmbikfmaaDoorCards.lean) ties it to the program's text. -/
def laid_banksman_mode_together {H : Type} : DataW H := .agg [.agg [.lit (.bool true), .lit (.bool true), .lit (.bool true), .lit (.bool true), .lit (.bool false)], .agg [.lit (.bool true), .lit (.bool true), .lit (.bool false), .lit (.bool false), .lit (.bool false)], .agg [.lit (.bool true), .lit (.bool false), .lit (.bool true), .lit (.bool false), .lit (.bool false)], .agg [.lit (.bool true), .lit (.bool false), .lit (.bool false), .lit (.bool false), .lit (.bool false)], .agg [.lit (.bool false), .lit (.bool false), .lit (.bool false), .lit (.bool false), .lit (.bool false)]]

/-- 'banksmanlaw11.LockTells': WHATEVER THE INPUT: true; the input reads as it did. -/
def lockTellsSpec : ChangeSpec := { name := "lockTells", fn := fun _ => fun
  | [d1, d2, d3, d4] => { results := [.lit (.bool true)], args := [d1, d2, d3, d4] }
  | _ => none }
def lockTellsRow : OpenClaim := { program := "ytccoklhmbikfmaadoor", sum := "f384cb1810bb0e2c07833eeafd5b4662610d9d3e43d076a68df65bec07906470", func := "banksman/banksmanlaw11.LockTells", spec := "lockTells", inPlace := ["internal/bytealg.Compare"], unfollowed := true, recurses := true, named := ["banksman/mode.together"], apart := false, laid := [("banksman/mode.together", laid_banksman_mode_together)] }
def LockTellsSaid : Prop := lockTellsRow.holds Tryd.pinned (OpenSpec.ofChange lockTellsSpec)

/-- ITS FALSE NEIGHBOUR: 'it returns false'. Refute it at one input. -/
def lockTellsWrong : ChangeSpec := { name := "lockTells", fn := fun _ => fun
  | [d1, d2, d3, d4] => { results := [.lit (.bool false)], args := [d1, d2, d3, d4] }
  | _ => none }
def LockTellsWrongFalsely : Prop := lockTellsRow.holds Tryd.pinned (OpenSpec.ofChange lockTellsWrong)

/-- 'banksmanlaw11.LockMay': WHATEVER THE INPUT: true; the input reads as it did. -/
def lockMaySpec : ChangeSpec := { name := "lockMay", fn := fun _ => fun
  | [d] => { results := [.lit (.bool true)], args := [d] }
  | _ => none }
def lockMayRow : OpenClaim := { program := "ytccoklhmbikfmaadoor", sum := "f384cb1810bb0e2c07833eeafd5b4662610d9d3e43d076a68df65bec07906470", func := "banksman/banksmanlaw11.LockMay", spec := "lockMay", inPlace := ["internal/bytealg.Compare"], unfollowed := true, recurses := true, named := ["banksman/mode.together"], apart := false, laid := [("banksman/mode.together", laid_banksman_mode_together)] }
def LockMaySaid : Prop := lockMayRow.holds Tryd.pinned (OpenSpec.ofChange lockMaySpec)

/-- ITS FALSE NEIGHBOUR: 'it returns false'. Refute it at one input. -/
def lockMayWrong : ChangeSpec := { name := "lockMay", fn := fun _ => fun
  | [d] => { results := [.lit (.bool false)], args := [d] }
  | _ => none }
def LockMayWrongFalsely : Prop := lockMayRow.holds Tryd.pinned (OpenSpec.ofChange lockMayWrong)

/-- 'banksmanlaw11.LockAlone': WHATEVER THE INPUT: true; the input reads as it did. -/
def lockAloneSpec : ChangeSpec := { name := "lockAlone", fn := fun _ => fun
  | [d1, d2] => { results := [.lit (.bool true)], args := [d1, d2] }
  | _ => none }
def lockAloneRow : OpenClaim := { program := "ytccoklhmbikfmaadoor", sum := "f384cb1810bb0e2c07833eeafd5b4662610d9d3e43d076a68df65bec07906470", func := "banksman/banksmanlaw11.LockAlone", spec := "lockAlone", inPlace := ["internal/bytealg.Compare"], unfollowed := true, recurses := true, named := ["banksman/mode.together"], apart := false, laid := [("banksman/mode.together", laid_banksman_mode_together)] }
def LockAloneSaid : Prop := lockAloneRow.holds Tryd.pinned (OpenSpec.ofChange lockAloneSpec)

/-- ITS FALSE NEIGHBOUR: 'it returns false'. Refute it at one input. -/
def lockAloneWrong : ChangeSpec := { name := "lockAlone", fn := fun _ => fun
  | [d1, d2] => { results := [.lit (.bool false)], args := [d1, d2] }
  | _ => none }
def LockAloneWrongFalsely : Prop := lockAloneRow.holds Tryd.pinned (OpenSpec.ofChange lockAloneWrong)

/- THE SECOND FORM. 'bulk': how many values and letters a reading holds, each counted each time it is reached (what is shared counts as often as it is met; a slice's spare places count too). A statement '..UptoSaid' is the law's where the arguments, and the package variables that the reading takes, are together of bulk at most 1048576: NARROWER than '..Said'. Prove '..Said' where nothing that the law and all that it calls make is longer than what came in: it says more and counts as full. Else prove '..UptoSaid'. A law counts once. -/
mutual
def uptoBulk {H : Type} : DataW H → Nat
  | .lit (.string bytes) => bytes.length + 1
  | .lit _ => 1
  | .nil => 1
  | .ptr d => uptoBulk d + 1
  | .slice elems spare => uptoBulkAll elems + uptoBulkAll spare + 1
  | .agg parts => uptoBulkAll parts + 1
  | .iface _ d => uptoBulk d + 1
  | .map entries => uptoBulkEntries entries + 1
  | .held _ => 1
def uptoBulkAll {H : Type} : List (DataW H) → Nat
  | [] => 0
  | d :: r => uptoBulk d + uptoBulkAll r
def uptoBulkEntries {H : Type} : List (Lit × DataW H) → Nat
  | [] => 0
  | x :: r => uptoBulkEntry x + uptoBulkEntries r
def uptoBulkEntry {H : Type} : Lit × DataW H → Nat
  | (.string bytes, d) => bytes.length + uptoBulk d + 1
  | (_, d) => uptoBulk d + 1
 end
def uptoSmall : (H : Type) → List (DataW H) → Bool := fun _ ds => decide (uptoBulkAll ds ≤ 1048576)
def OpenSpec.upto (s : _root_.Go.ChangeSpec) : _root_.Go.OpenSpec := { _root_.Go.OpenSpec.ofChange s with cond := some uptoSmall }

/-- 'banksmanlaw11.LockTells', WHERE WHAT IT READS IS OF BULK AT MOST 1048576: true; the input reads as it did. -/
def lockTellsUptoRow : OpenClaim := { program := "ytccoklhmbikfmaadoor", sum := "f384cb1810bb0e2c07833eeafd5b4662610d9d3e43d076a68df65bec07906470", func := "banksman/banksmanlaw11.LockTells", spec := "lockTells", inPlace := ["internal/bytealg.Compare"], unfollowed := true, recurses := true, named := ["banksman/mode.together"], apart := false, laid := [("banksman/mode.together", laid_banksman_mode_together)], narrowed := true }
def LockTellsUptoSaid : Prop := lockTellsUptoRow.holds Tryd.pinned (OpenSpec.upto lockTellsSpec)

/-- 'banksmanlaw11.LockMay', WHERE WHAT IT READS IS OF BULK AT MOST 1048576: true; the input reads as it did. -/
def lockMayUptoRow : OpenClaim := { program := "ytccoklhmbikfmaadoor", sum := "f384cb1810bb0e2c07833eeafd5b4662610d9d3e43d076a68df65bec07906470", func := "banksman/banksmanlaw11.LockMay", spec := "lockMay", inPlace := ["internal/bytealg.Compare"], unfollowed := true, recurses := true, named := ["banksman/mode.together"], apart := false, laid := [("banksman/mode.together", laid_banksman_mode_together)], narrowed := true }
def LockMayUptoSaid : Prop := lockMayUptoRow.holds Tryd.pinned (OpenSpec.upto lockMaySpec)

/-- 'banksmanlaw11.LockAlone', WHERE WHAT IT READS IS OF BULK AT MOST 1048576: true; the input reads as it did. -/
def lockAloneUptoRow : OpenClaim := { program := "ytccoklhmbikfmaadoor", sum := "f384cb1810bb0e2c07833eeafd5b4662610d9d3e43d076a68df65bec07906470", func := "banksman/banksmanlaw11.LockAlone", spec := "lockAlone", inPlace := ["internal/bytealg.Compare"], unfollowed := true, recurses := true, named := ["banksman/mode.together"], apart := false, laid := [("banksman/mode.together", laid_banksman_mode_together)], narrowed := true }
def LockAloneUptoSaid : Prop := lockAloneUptoRow.holds Tryd.pinned (OpenSpec.upto lockAloneSpec)

end Rows
end Go.Proofs.YtccoklhmbikfmaaDoor
