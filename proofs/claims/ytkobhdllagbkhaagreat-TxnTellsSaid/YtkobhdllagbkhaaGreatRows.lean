/-
  NARROWER THAN 'FOR EVERY INPUT', by the rows' own cells (each row's printed sentence says how): TxnDoes: loops · TxnSees: loops · TxnBlind: loops · TxnBack: loops.
  DERIVED. THE GIVEN ROWS OF THIS SEAT. 6 by the template 'for every input the law returns true; each argument reads behind the call as it read before'; 0 by the template 'total and deterministic' (their statements: YtkobhdllagbkhaaGreatTotals.lean).
  GIVEN WITH THE SEED: the statements are not yours to turn. If you find one false, say at which input.
  Laid BY PROGRAM, IN A SANDBOX (cutbox-rows.mjs): the forced cells as the released guide's own fill.sh prints them over the translation 06a4c90dcdc89a5c… (all of the seat's roots in one cut). By AI agents, Wed Nov 11 2026. No macro, syntax, notation, axiom, sorry.
-/
import Derived.Test.YtkobhdllagbkhaaGreatChecked
import GoSem.Claim
import GoSem.ClaimJoined
import GoSem.ClaimMapViews
import Derived.JoinedTies
import Derived.KernelRfl
namespace Go.Proofs.YtkobhdllagbkhaaGreat
/- THE CELL 'sum', in the pinned program and in every row, IS THE sha256 OF THE DUMP (.gsa) THAT YtkobhdllagbkhaaGreatProg.lean LOADS. Nothing in Lean hashes anything: it is a label: what it is worth is what the hold of that sum in a sandbox is worth. -/
noncomputable def Tryz.pinned : Pinned := { name := "ytkobhdllagbkhaagreat", sum := "06a4c90dcdc89a5c5ad3c9c88632e4e95abd07ce4a3a56555ba99eea95374502", checked := Tryz.checked }
namespace Rows
def none {H : Type} : Left H := { results := [], args := [] }

/-- 'banksmanlaw15.TxnNames': WHATEVER THE INPUT: true; the input reads as it did. -/
def txnNamesSpec : ChangeSpec := { name := "txnNames", fn := fun _ => fun
  | [] => { results := [.lit (.bool true)], args := [] }
  | _ => none }
def txnNamesRow : OpenClaim := { program := "ytkobhdllagbkhaagreat", sum := "06a4c90dcdc89a5c5ad3c9c88632e4e95abd07ce4a3a56555ba99eea95374502", func := "banksman/banksmanlaw15.TxnNames", spec := "txnNames", inPlace := ["internal/bytealg.Compare", "slices.overlaps[[]byte]", "slices.overlaps[[]banksman/api.Version]", "slices.overlaps[banksman/api.Node]", "internal/bytealg.abigen_runtime_cmpstring", "slices.overlaps[banksman/api.Pair]"], unfollowed := true, recurses := true, plainKeys := false, apart := false }
def TxnNamesSaid : Prop := txnNamesRow.holds Tryz.pinned (OpenSpec.ofChange txnNamesSpec)

/-- ITS FALSE NEIGHBOUR: 'it returns false'. Refute it at one input. -/
def txnNamesWrong : ChangeSpec := { name := "txnNames", fn := fun _ => fun
  | [] => { results := [.lit (.bool false)], args := [] }
  | _ => none }
def TxnNamesWrongFalsely : Prop := txnNamesRow.holds Tryz.pinned (OpenSpec.ofChange txnNamesWrong)

/-- 'banksmanlaw15.TxnTells': WHATEVER THE INPUT: true; the input reads as it did. -/
def txnTellsSpec : ChangeSpec := { name := "txnTells", fn := fun _ => fun
  | [d1, d2] => { results := [.lit (.bool true)], args := [d1, d2] }
  | _ => none }
def txnTellsRow : OpenClaim := { program := "ytkobhdllagbkhaagreat", sum := "06a4c90dcdc89a5c5ad3c9c88632e4e95abd07ce4a3a56555ba99eea95374502", func := "banksman/banksmanlaw15.TxnTells", spec := "txnTells", inPlace := ["internal/bytealg.Compare", "slices.overlaps[[]byte]", "slices.overlaps[[]banksman/api.Version]", "slices.overlaps[banksman/api.Node]", "internal/bytealg.abigen_runtime_cmpstring", "slices.overlaps[banksman/api.Pair]"], unfollowed := true, recurses := true, plainKeys := false, apart := false }
def TxnTellsSaid : Prop := txnTellsRow.holds Tryz.pinned (OpenSpec.ofChange txnTellsSpec)

/-- ITS FALSE NEIGHBOUR: 'it returns false'. Refute it at one input. -/
def txnTellsWrong : ChangeSpec := { name := "txnTells", fn := fun _ => fun
  | [d1, d2] => { results := [.lit (.bool false)], args := [d1, d2] }
  | _ => none }
def TxnTellsWrongFalsely : Prop := txnTellsRow.holds Tryz.pinned (OpenSpec.ofChange txnTellsWrong)

/-- 'banksmanlaw15.TxnDoes': WHATEVER THE INPUT: true; the input reads as it did. -/
def txnDoesSpec : ChangeSpec := { name := "txnDoes", fn := fun _ => fun
  | [d1, d2, d3, d4] => { results := [.lit (.bool true)], args := [d1, d2, d3, d4] }
  | _ => none }
def txnDoesRow : OpenClaim := { program := "ytkobhdllagbkhaagreat", sum := "06a4c90dcdc89a5c5ad3c9c88632e4e95abd07ce4a3a56555ba99eea95374502", func := "banksman/banksmanlaw15.TxnDoes", spec := "txnDoes", inPlace := ["internal/bytealg.Compare", "slices.overlaps[[]byte]", "slices.overlaps[[]banksman/api.Version]", "slices.overlaps[banksman/api.Node]", "internal/bytealg.abigen_runtime_cmpstring", "slices.overlaps[banksman/api.Pair]"], unfollowed := true, recurses := true, loops := true, plainKeys := false, apart := false }
def TxnDoesSaid : Prop := txnDoesRow.holds Tryz.pinned (OpenSpec.ofChange txnDoesSpec)

/-- ITS FALSE NEIGHBOUR: 'it returns false'. Refute it at one input. -/
def txnDoesWrong : ChangeSpec := { name := "txnDoes", fn := fun _ => fun
  | [d1, d2, d3, d4] => { results := [.lit (.bool false)], args := [d1, d2, d3, d4] }
  | _ => none }
def TxnDoesWrongFalsely : Prop := txnDoesRow.holds Tryz.pinned (OpenSpec.ofChange txnDoesWrong)

/-- 'banksmanlaw15.TxnSees': WHATEVER THE INPUT: true; the input reads as it did. -/
def txnSeesSpec : ChangeSpec := { name := "txnSees", fn := fun _ => fun
  | [d1, d2, d3, d4, d5] => { results := [.lit (.bool true)], args := [d1, d2, d3, d4, d5] }
  | _ => none }
def txnSeesRow : OpenClaim := { program := "ytkobhdllagbkhaagreat", sum := "06a4c90dcdc89a5c5ad3c9c88632e4e95abd07ce4a3a56555ba99eea95374502", func := "banksman/banksmanlaw15.TxnSees", spec := "txnSees", inPlace := ["internal/bytealg.Compare", "slices.overlaps[[]byte]", "slices.overlaps[[]banksman/api.Version]", "slices.overlaps[banksman/api.Node]", "internal/bytealg.abigen_runtime_cmpstring", "slices.overlaps[banksman/api.Pair]"], unfollowed := true, recurses := true, loops := true, plainKeys := false, apart := false }
def TxnSeesSaid : Prop := txnSeesRow.holds Tryz.pinned (OpenSpec.ofChange txnSeesSpec)

/-- ITS FALSE NEIGHBOUR: 'it returns false'. Refute it at one input. -/
def txnSeesWrong : ChangeSpec := { name := "txnSees", fn := fun _ => fun
  | [d1, d2, d3, d4, d5] => { results := [.lit (.bool false)], args := [d1, d2, d3, d4, d5] }
  | _ => none }
def TxnSeesWrongFalsely : Prop := txnSeesRow.holds Tryz.pinned (OpenSpec.ofChange txnSeesWrong)

/-- 'banksmanlaw15.TxnBlind': WHATEVER THE INPUT: true; the input reads as it did. -/
def txnBlindSpec : ChangeSpec := { name := "txnBlind", fn := fun _ => fun
  | [d1, d2, d3, d4, d5] => { results := [.lit (.bool true)], args := [d1, d2, d3, d4, d5] }
  | _ => none }
def txnBlindRow : OpenClaim := { program := "ytkobhdllagbkhaagreat", sum := "06a4c90dcdc89a5c5ad3c9c88632e4e95abd07ce4a3a56555ba99eea95374502", func := "banksman/banksmanlaw15.TxnBlind", spec := "txnBlind", inPlace := ["internal/bytealg.Compare", "slices.overlaps[[]byte]", "slices.overlaps[[]banksman/api.Version]", "slices.overlaps[banksman/api.Node]", "internal/bytealg.abigen_runtime_cmpstring", "slices.overlaps[banksman/api.Pair]"], unfollowed := true, recurses := true, loops := true, plainKeys := false, apart := false }
def TxnBlindSaid : Prop := txnBlindRow.holds Tryz.pinned (OpenSpec.ofChange txnBlindSpec)

/-- ITS FALSE NEIGHBOUR: 'it returns false'. Refute it at one input. -/
def txnBlindWrong : ChangeSpec := { name := "txnBlind", fn := fun _ => fun
  | [d1, d2, d3, d4, d5] => { results := [.lit (.bool false)], args := [d1, d2, d3, d4, d5] }
  | _ => none }
def TxnBlindWrongFalsely : Prop := txnBlindRow.holds Tryz.pinned (OpenSpec.ofChange txnBlindWrong)

/-- 'banksmanlaw15.TxnBack': WHATEVER THE INPUT: true; the input reads as it did. -/
def txnBackSpec : ChangeSpec := { name := "txnBack", fn := fun _ => fun
  | [d1, d2, d3, d4, d5] => { results := [.lit (.bool true)], args := [d1, d2, d3, d4, d5] }
  | _ => none }
def txnBackRow : OpenClaim := { program := "ytkobhdllagbkhaagreat", sum := "06a4c90dcdc89a5c5ad3c9c88632e4e95abd07ce4a3a56555ba99eea95374502", func := "banksman/banksmanlaw15.TxnBack", spec := "txnBack", inPlace := ["internal/bytealg.Compare", "slices.overlaps[[]byte]", "slices.overlaps[[]banksman/api.Version]", "slices.overlaps[banksman/api.Node]", "internal/bytealg.abigen_runtime_cmpstring", "slices.overlaps[banksman/api.Pair]"], unfollowed := true, recurses := true, loops := true, plainKeys := false, apart := false }
def TxnBackSaid : Prop := txnBackRow.holds Tryz.pinned (OpenSpec.ofChange txnBackSpec)

/-- ITS FALSE NEIGHBOUR: 'it returns false'. Refute it at one input. -/
def txnBackWrong : ChangeSpec := { name := "txnBack", fn := fun _ => fun
  | [d1, d2, d3, d4, d5] => { results := [.lit (.bool false)], args := [d1, d2, d3, d4, d5] }
  | _ => none }
def TxnBackWrongFalsely : Prop := txnBackRow.holds Tryz.pinned (OpenSpec.ofChange txnBackWrong)

/- THE SECOND FORM. 'bulk': how many values and letters a reading holds, each counted each time it is reached (what is shared counts as often as it is met; a slice's spare places count too). A statement '..UptoSaid' is the law's where the arguments, and the package variables that the reading takes, are together of bulk at most 1048576: NARROWER than '..Said'. Prove '..Said' where nothing that the law and all that it calls make is longer than what came in: it says more and counts as full. Else prove '..UptoSaid'. A law counts once. -/
mutual
def uptoBulk {H : Type} : DataW H → Nat
  | .lit (.string bytes) => bytes.length + 1
  | .lit _ => 1
  | .nil => 1
  | .ptr d => uptoBulk d + 1
  | .slice elems spare => uptoBulkAll elems + uptoBulkAll spare + 1
  | .agg parts => uptoBulkAll parts + 1
  | .iface _ d => uptoBulk d + 1
  | .map entries => uptoBulkEntries entries + 1
  | .held _ => 1
def uptoBulkAll {H : Type} : List (DataW H) → Nat
  | [] => 0
  | d :: r => uptoBulk d + uptoBulkAll r
def uptoBulkEntries {H : Type} : List (Lit × DataW H) → Nat
  | [] => 0
  | x :: r => uptoBulkEntry x + uptoBulkEntries r
def uptoBulkEntry {H : Type} : Lit × DataW H → Nat
  | (.string bytes, d) => bytes.length + uptoBulk d + 1
  | (_, d) => uptoBulk d + 1
 end
def uptoSmall : (H : Type) → List (DataW H) → Bool := fun _ ds => decide (uptoBulkAll ds ≤ 1048576)
def OpenSpec.upto (s : _root_.Go.ChangeSpec) : _root_.Go.OpenSpec := { _root_.Go.OpenSpec.ofChange s with cond := some uptoSmall }

/-- 'banksmanlaw15.TxnNames', WHERE WHAT IT READS IS OF BULK AT MOST 1048576: true; the input reads as it did. -/
def txnNamesUptoRow : OpenClaim := { program := "ytkobhdllagbkhaagreat", sum := "06a4c90dcdc89a5c5ad3c9c88632e4e95abd07ce4a3a56555ba99eea95374502", func := "banksman/banksmanlaw15.TxnNames", spec := "txnNames", inPlace := ["internal/bytealg.Compare", "slices.overlaps[[]byte]", "slices.overlaps[[]banksman/api.Version]", "slices.overlaps[banksman/api.Node]", "internal/bytealg.abigen_runtime_cmpstring", "slices.overlaps[banksman/api.Pair]"], unfollowed := true, recurses := true, plainKeys := false, apart := false, narrowed := true }
def TxnNamesUptoSaid : Prop := txnNamesUptoRow.holds Tryz.pinned (OpenSpec.upto txnNamesSpec)

/-- 'banksmanlaw15.TxnTells', WHERE WHAT IT READS IS OF BULK AT MOST 1048576: true; the input reads as it did. -/
def txnTellsUptoRow : OpenClaim := { program := "ytkobhdllagbkhaagreat", sum := "06a4c90dcdc89a5c5ad3c9c88632e4e95abd07ce4a3a56555ba99eea95374502", func := "banksman/banksmanlaw15.TxnTells", spec := "txnTells", inPlace := ["internal/bytealg.Compare", "slices.overlaps[[]byte]", "slices.overlaps[[]banksman/api.Version]", "slices.overlaps[banksman/api.Node]", "internal/bytealg.abigen_runtime_cmpstring", "slices.overlaps[banksman/api.Pair]"], unfollowed := true, recurses := true, plainKeys := false, apart := false, narrowed := true }
def TxnTellsUptoSaid : Prop := txnTellsUptoRow.holds Tryz.pinned (OpenSpec.upto txnTellsSpec)

/-- 'banksmanlaw15.TxnDoes', WHERE WHAT IT READS IS OF BULK AT MOST 1048576: true; the input reads as it did. -/
def txnDoesUptoRow : OpenClaim := { program := "ytkobhdllagbkhaagreat", sum := "06a4c90dcdc89a5c5ad3c9c88632e4e95abd07ce4a3a56555ba99eea95374502", func := "banksman/banksmanlaw15.TxnDoes", spec := "txnDoes", inPlace := ["internal/bytealg.Compare", "slices.overlaps[[]byte]", "slices.overlaps[[]banksman/api.Version]", "slices.overlaps[banksman/api.Node]", "internal/bytealg.abigen_runtime_cmpstring", "slices.overlaps[banksman/api.Pair]"], unfollowed := true, recurses := true, loops := true, plainKeys := false, apart := false, narrowed := true }
def TxnDoesUptoSaid : Prop := txnDoesUptoRow.holds Tryz.pinned (OpenSpec.upto txnDoesSpec)

/-- 'banksmanlaw15.TxnSees', WHERE WHAT IT READS IS OF BULK AT MOST 1048576: true; the input reads as it did. -/
def txnSeesUptoRow : OpenClaim := { program := "ytkobhdllagbkhaagreat", sum := "06a4c90dcdc89a5c5ad3c9c88632e4e95abd07ce4a3a56555ba99eea95374502", func := "banksman/banksmanlaw15.TxnSees", spec := "txnSees", inPlace := ["internal/bytealg.Compare", "slices.overlaps[[]byte]", "slices.overlaps[[]banksman/api.Version]", "slices.overlaps[banksman/api.Node]", "internal/bytealg.abigen_runtime_cmpstring", "slices.overlaps[banksman/api.Pair]"], unfollowed := true, recurses := true, loops := true, plainKeys := false, apart := false, narrowed := true }
def TxnSeesUptoSaid : Prop := txnSeesUptoRow.holds Tryz.pinned (OpenSpec.upto txnSeesSpec)

/-- 'banksmanlaw15.TxnBlind', WHERE WHAT IT READS IS OF BULK AT MOST 1048576: true; the input reads as it did. -/
def txnBlindUptoRow : OpenClaim := { program := "ytkobhdllagbkhaagreat", sum := "06a4c90dcdc89a5c5ad3c9c88632e4e95abd07ce4a3a56555ba99eea95374502", func := "banksman/banksmanlaw15.TxnBlind", spec := "txnBlind", inPlace := ["internal/bytealg.Compare", "slices.overlaps[[]byte]", "slices.overlaps[[]banksman/api.Version]", "slices.overlaps[banksman/api.Node]", "internal/bytealg.abigen_runtime_cmpstring", "slices.overlaps[banksman/api.Pair]"], unfollowed := true, recurses := true, loops := true, plainKeys := false, apart := false, narrowed := true }
def TxnBlindUptoSaid : Prop := txnBlindUptoRow.holds Tryz.pinned (OpenSpec.upto txnBlindSpec)

/-- 'banksmanlaw15.TxnBack', WHERE WHAT IT READS IS OF BULK AT MOST 1048576: true; the input reads as it did. -/
def txnBackUptoRow : OpenClaim := { program := "ytkobhdllagbkhaagreat", sum := "06a4c90dcdc89a5c5ad3c9c88632e4e95abd07ce4a3a56555ba99eea95374502", func := "banksman/banksmanlaw15.TxnBack", spec := "txnBack", inPlace := ["internal/bytealg.Compare", "slices.overlaps[[]byte]", "slices.overlaps[[]banksman/api.Version]", "slices.overlaps[banksman/api.Node]", "internal/bytealg.abigen_runtime_cmpstring", "slices.overlaps[banksman/api.Pair]"], unfollowed := true, recurses := true, loops := true, plainKeys := false, apart := false, narrowed := true }
def TxnBackUptoSaid : Prop := txnBackUptoRow.holds Tryz.pinned (OpenSpec.upto txnBackSpec)

end Rows
end Go.Proofs.YtkobhdllagbkhaaGreat
