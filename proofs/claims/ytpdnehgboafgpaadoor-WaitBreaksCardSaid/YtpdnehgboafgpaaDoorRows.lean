/-
  NARROWER THAN 'FOR EVERY INPUT', by the rows' own cells (each row's printed sentence says how): LockTells: laid · WaitTells: laid · WaitBreaks: laid · WaitMore: laid · WaitLess: laid.
  DERIVED. THE GIVEN ROWS OF THIS SEAT. 5 by the template 'for every input the law returns true; each argument reads behind the call as it read before'; 0 by the template 'total and deterministic' (their statements: YtpdnehgboafgpaaDoorTotals.lean).
  GIVEN WITH THE SEED: the statements are not yours to turn. If you find one false, say at which input.
  Laid BY PROGRAM, IN A SANDBOX (cutbox-rows.mjs): the forced cells as the released guide's own fill.sh prints them over the translation 4710fadefee157a5… (all of the seat's roots in one cut). By AI agents, Wed Nov 11 2026. No macro, syntax, notation, axiom, sorry.
-/
import Derived.Test.YtpdnehgboafgpaaDoorChecked
import GoSem.Claim
import GoSem.ClaimJoined
import GoSem.ClaimMapViews
import Derived.JoinedTies
import Derived.KernelRfl
namespace Go.Proofs.YtpdnehgboafgpaaDoor
/- THE CELL 'sum', in the pinned program and in every row, IS THE sha256 OF THE DUMP (.gsa) THAT YtpdnehgboafgpaaDoorProg.lean LOADS. Nothing in Lean hashes anything: it is a label: what it is worth is what the hold of that sum in a sandbox is worth. -/
noncomputable def Tryd.pinned : Pinned := { name := "ytpdnehgboafgpaadoor", sum := "4710fadefee157a515b8dde2b3a7e1dc7675c2847b5788028f40f204b1c19562", checked := Tryd.checked }
namespace Rows
def none {H : Type} : Left H := { results := [], args := [] }

/- WHAT THE LISTED PACKAGE-LEVEL VARIABLES READ AS WHEN THE CALL BEGINS. Each datum BY PROGRAM (the guide's laid-datum.mjs) off the statement by which the dump's own 'gosem.cut.vars' lays the variable. In a bare row this is a premise. The card (YtpdnehgboafgpaaDoorCards.lean) ties it to the program's text. -/
def laid_banksman_mode_together {H : Type} : DataW H := .agg [.agg [.lit (.bool true), .lit (.bool true), .lit (.bool true), .lit (.bool true), .lit (.bool false)], .agg [.lit (.bool true), .lit (.bool true), .lit (.bool false), .lit (.bool false), .lit (.bool false)], .agg [.lit (.bool true), .lit (.bool false), .lit (.bool true), .lit (.bool false), .lit (.bool false)], .agg [.lit (.bool true), .lit (.bool false), .lit (.bool false), .lit (.bool false), .lit (.bool false)], .agg [.lit (.bool false), .lit (.bool false), .lit (.bool false), .lit (.bool false), .lit (.bool false)]]

/-- 'banksmanlaw11.LockTells': WHATEVER THE INPUT: true; the input reads as it did. -/
def lockTellsSpec : ChangeSpec := { name := "lockTells", fn := fun _ => fun
  | [d1, d2, d3, d4] => { results := [.lit (.bool true)], args := [d1, d2, d3, d4] }
  | _ => none }
def lockTellsRow : OpenClaim := { program := "ytpdnehgboafgpaadoor", sum := "4710fadefee157a515b8dde2b3a7e1dc7675c2847b5788028f40f204b1c19562", func := "banksman/banksmanlaw11.LockTells", spec := "lockTells", inPlace := ["internal/bytealg.Compare"], unfollowed := true, recurses := true, named := ["banksman/mode.together"], apart := false, laid := [("banksman/mode.together", laid_banksman_mode_together)] }
def LockTellsSaid : Prop := lockTellsRow.holds Tryd.pinned (OpenSpec.ofChange lockTellsSpec)

/-- ITS FALSE NEIGHBOUR: 'it returns false'. Refute it at one input. -/
def lockTellsWrong : ChangeSpec := { name := "lockTells", fn := fun _ => fun
  | [d1, d2, d3, d4] => { results := [.lit (.bool false)], args := [d1, d2, d3, d4] }
  | _ => none }
def LockTellsWrongFalsely : Prop := lockTellsRow.holds Tryd.pinned (OpenSpec.ofChange lockTellsWrong)

/-- 'banksmanlaw12.WaitTells': WHATEVER THE INPUT: true; the input reads as it did. -/
def waitTellsSpec : ChangeSpec := { name := "waitTells", fn := fun _ => fun
  | [d1, d2, d3] => { results := [.lit (.bool true)], args := [d1, d2, d3] }
  | _ => none }
def waitTellsRow : OpenClaim := { program := "ytpdnehgboafgpaadoor", sum := "4710fadefee157a515b8dde2b3a7e1dc7675c2847b5788028f40f204b1c19562", func := "banksman/banksmanlaw12.WaitTells", spec := "waitTells", inPlace := ["internal/bytealg.Compare"], unfollowed := true, recurses := true, named := ["banksman/mode.together"], apart := false, laid := [("banksman/mode.together", laid_banksman_mode_together)] }
def WaitTellsSaid : Prop := waitTellsRow.holds Tryd.pinned (OpenSpec.ofChange waitTellsSpec)

/-- ITS FALSE NEIGHBOUR: 'it returns false'. Refute it at one input. -/
def waitTellsWrong : ChangeSpec := { name := "waitTells", fn := fun _ => fun
  | [d1, d2, d3] => { results := [.lit (.bool false)], args := [d1, d2, d3] }
  | _ => none }
def WaitTellsWrongFalsely : Prop := waitTellsRow.holds Tryd.pinned (OpenSpec.ofChange waitTellsWrong)

/-- 'banksmanlaw12.WaitBreaks': WHATEVER THE INPUT: true; the input reads as it did. -/
def waitBreaksSpec : ChangeSpec := { name := "waitBreaks", fn := fun _ => fun
  | [d1, d2] => { results := [.lit (.bool true)], args := [d1, d2] }
  | _ => none }
def waitBreaksRow : OpenClaim := { program := "ytpdnehgboafgpaadoor", sum := "4710fadefee157a515b8dde2b3a7e1dc7675c2847b5788028f40f204b1c19562", func := "banksman/banksmanlaw12.WaitBreaks", spec := "waitBreaks", inPlace := ["internal/bytealg.Compare"], unfollowed := true, recurses := true, named := ["banksman/mode.together"], apart := false, laid := [("banksman/mode.together", laid_banksman_mode_together)] }
def WaitBreaksSaid : Prop := waitBreaksRow.holds Tryd.pinned (OpenSpec.ofChange waitBreaksSpec)

/-- ITS FALSE NEIGHBOUR: 'it returns false'. Refute it at one input. -/
def waitBreaksWrong : ChangeSpec := { name := "waitBreaks", fn := fun _ => fun
  | [d1, d2] => { results := [.lit (.bool false)], args := [d1, d2] }
  | _ => none }
def WaitBreaksWrongFalsely : Prop := waitBreaksRow.holds Tryd.pinned (OpenSpec.ofChange waitBreaksWrong)

/-- 'banksmanlaw12.WaitMore': WHATEVER THE INPUT: true; the input reads as it did. -/
def waitMoreSpec : ChangeSpec := { name := "waitMore", fn := fun _ => fun
  | [d1, d2, d3] => { results := [.lit (.bool true)], args := [d1, d2, d3] }
  | _ => none }
def waitMoreRow : OpenClaim := { program := "ytpdnehgboafgpaadoor", sum := "4710fadefee157a515b8dde2b3a7e1dc7675c2847b5788028f40f204b1c19562", func := "banksman/banksmanlaw12.WaitMore", spec := "waitMore", inPlace := ["internal/bytealg.Compare"], unfollowed := true, recurses := true, named := ["banksman/mode.together"], apart := false, laid := [("banksman/mode.together", laid_banksman_mode_together)] }
def WaitMoreSaid : Prop := waitMoreRow.holds Tryd.pinned (OpenSpec.ofChange waitMoreSpec)

/-- ITS FALSE NEIGHBOUR: 'it returns false'. Refute it at one input. -/
def waitMoreWrong : ChangeSpec := { name := "waitMore", fn := fun _ => fun
  | [d1, d2, d3] => { results := [.lit (.bool false)], args := [d1, d2, d3] }
  | _ => none }
def WaitMoreWrongFalsely : Prop := waitMoreRow.holds Tryd.pinned (OpenSpec.ofChange waitMoreWrong)

/-- 'banksmanlaw12.WaitLess': WHATEVER THE INPUT: true; the input reads as it did. -/
def waitLessSpec : ChangeSpec := { name := "waitLess", fn := fun _ => fun
  | [d1, d2] => { results := [.lit (.bool true)], args := [d1, d2] }
  | _ => none }
def waitLessRow : OpenClaim := { program := "ytpdnehgboafgpaadoor", sum := "4710fadefee157a515b8dde2b3a7e1dc7675c2847b5788028f40f204b1c19562", func := "banksman/banksmanlaw12.WaitLess", spec := "waitLess", inPlace := ["internal/bytealg.Compare"], unfollowed := true, recurses := true, named := ["banksman/mode.together"], apart := false, laid := [("banksman/mode.together", laid_banksman_mode_together)] }
def WaitLessSaid : Prop := waitLessRow.holds Tryd.pinned (OpenSpec.ofChange waitLessSpec)

/-- ITS FALSE NEIGHBOUR: 'it returns false'. Refute it at one input. -/
def waitLessWrong : ChangeSpec := { name := "waitLess", fn := fun _ => fun
  | [d1, d2] => { results := [.lit (.bool false)], args := [d1, d2] }
  | _ => none }
def WaitLessWrongFalsely : Prop := waitLessRow.holds Tryd.pinned (OpenSpec.ofChange waitLessWrong)

/- THE SECOND FORM. 'bulk': how many values and letters a reading holds, each counted each time it is reached (what is shared counts as often as it is met; a slice's spare places count too). A statement '..UptoSaid' is the law's where the arguments, and the package variables that the reading takes, are together of bulk at most 1048576: NARROWER than '..Said'. Prove '..Said' where nothing that the law and all that it calls make is longer than what came in: it says more and counts as full. Else prove '..UptoSaid'. A law counts once. -/
mutual
def uptoBulk {H : Type} : DataW H → Nat
  | .lit (.string bytes) => bytes.length + 1
  | .lit _ => 1
  | .nil => 1
  | .ptr d => uptoBulk d + 1
  | .slice elems spare => uptoBulkAll elems + uptoBulkAll spare + 1
  | .agg parts => uptoBulkAll parts + 1
  | .iface _ d => uptoBulk d + 1
  | .map entries => uptoBulkEntries entries + 1
  | .held _ => 1
def uptoBulkAll {H : Type} : List (DataW H) → Nat
  | [] => 0
  | d :: r => uptoBulk d + uptoBulkAll r
def uptoBulkEntries {H : Type} : List (Lit × DataW H) → Nat
  | [] => 0
  | x :: r => uptoBulkEntry x + uptoBulkEntries r
def uptoBulkEntry {H : Type} : Lit × DataW H → Nat
  | (.string bytes, d) => bytes.length + uptoBulk d + 1
  | (_, d) => uptoBulk d + 1
 end
def uptoSmall : (H : Type) → List (DataW H) → Bool := fun _ ds => decide (uptoBulkAll ds ≤ 1048576)
def OpenSpec.upto (s : _root_.Go.ChangeSpec) : _root_.Go.OpenSpec := { _root_.Go.OpenSpec.ofChange s with cond := some uptoSmall }

/-- 'banksmanlaw11.LockTells', WHERE WHAT IT READS IS OF BULK AT MOST 1048576: true; the input reads as it did. -/
def lockTellsUptoRow : OpenClaim := { program := "ytpdnehgboafgpaadoor", sum := "4710fadefee157a515b8dde2b3a7e1dc7675c2847b5788028f40f204b1c19562", func := "banksman/banksmanlaw11.LockTells", spec := "lockTells", inPlace := ["internal/bytealg.Compare"], unfollowed := true, recurses := true, named := ["banksman/mode.together"], apart := false, laid := [("banksman/mode.together", laid_banksman_mode_together)], narrowed := true }
def LockTellsUptoSaid : Prop := lockTellsUptoRow.holds Tryd.pinned (OpenSpec.upto lockTellsSpec)

/-- 'banksmanlaw12.WaitTells', WHERE WHAT IT READS IS OF BULK AT MOST 1048576: true; the input reads as it did. -/
def waitTellsUptoRow : OpenClaim := { program := "ytpdnehgboafgpaadoor", sum := "4710fadefee157a515b8dde2b3a7e1dc7675c2847b5788028f40f204b1c19562", func := "banksman/banksmanlaw12.WaitTells", spec := "waitTells", inPlace := ["internal/bytealg.Compare"], unfollowed := true, recurses := true, named := ["banksman/mode.together"], apart := false, laid := [("banksman/mode.together", laid_banksman_mode_together)], narrowed := true }
def WaitTellsUptoSaid : Prop := waitTellsUptoRow.holds Tryd.pinned (OpenSpec.upto waitTellsSpec)

/-- 'banksmanlaw12.WaitBreaks', WHERE WHAT IT READS IS OF BULK AT MOST 1048576: true; the input reads as it did. -/
def waitBreaksUptoRow : OpenClaim := { program := "ytpdnehgboafgpaadoor", sum := "4710fadefee157a515b8dde2b3a7e1dc7675c2847b5788028f40f204b1c19562", func := "banksman/banksmanlaw12.WaitBreaks", spec := "waitBreaks", inPlace := ["internal/bytealg.Compare"], unfollowed := true, recurses := true, named := ["banksman/mode.together"], apart := false, laid := [("banksman/mode.together", laid_banksman_mode_together)], narrowed := true }
def WaitBreaksUptoSaid : Prop := waitBreaksUptoRow.holds Tryd.pinned (OpenSpec.upto waitBreaksSpec)

/-- 'banksmanlaw12.WaitMore', WHERE WHAT IT READS IS OF BULK AT MOST 1048576: true; the input reads as it did. -/
def waitMoreUptoRow : OpenClaim := { program := "ytpdnehgboafgpaadoor", sum := "4710fadefee157a515b8dde2b3a7e1dc7675c2847b5788028f40f204b1c19562", func := "banksman/banksmanlaw12.WaitMore", spec := "waitMore", inPlace := ["internal/bytealg.Compare"], unfollowed := true, recurses := true, named := ["banksman/mode.together"], apart := false, laid := [("banksman/mode.together", laid_banksman_mode_together)], narrowed := true }
def WaitMoreUptoSaid : Prop := waitMoreUptoRow.holds Tryd.pinned (OpenSpec.upto waitMoreSpec)

/-- 'banksmanlaw12.WaitLess', WHERE WHAT IT READS IS OF BULK AT MOST 1048576: true; the input reads as it did. -/
def waitLessUptoRow : OpenClaim := { program := "ytpdnehgboafgpaadoor", sum := "4710fadefee157a515b8dde2b3a7e1dc7675c2847b5788028f40f204b1c19562", func := "banksman/banksmanlaw12.WaitLess", spec := "waitLess", inPlace := ["internal/bytealg.Compare"], unfollowed := true, recurses := true, named := ["banksman/mode.together"], apart := false, laid := [("banksman/mode.together", laid_banksman_mode_together)], narrowed := true }
def WaitLessUptoSaid : Prop := waitLessUptoRow.holds Tryd.pinned (OpenSpec.upto waitLessSpec)

end Rows
end Go.Proofs.YtpdnehgboafgpaaDoor
