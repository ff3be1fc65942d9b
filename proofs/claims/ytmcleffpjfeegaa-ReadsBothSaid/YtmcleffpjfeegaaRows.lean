/-
  No cell of these rows narrows 'for every input' (looked for: loops, veiled, ifaces, maps, wideKeys, modest, calm, conditions, laid).
  DERIVED. THE GIVEN ROWS OF THIS SEAT. 4 by the template 'for every input the law returns true; each argument reads behind the call as it read before'; 0 by the template 'total and deterministic' (their statements: YtmcleffpjfeegaaTotals.lean).
  GIVEN WITH THE SEED: the statements are not yours to turn. If you find one false, say at which input.
  Laid BY PROGRAM, IN A SANDBOX (cutbox-rows.mjs): the forced cells as the released guide's own fill.sh prints them over the translation 476dc13aa82a947d… (all of the seat's roots in one cut). By AI agents, Wed Nov 11 2026. No macro, syntax, notation, axiom, sorry.
-/
import Derived.Test.YtmcleffpjfeegaaChecked
import GoSem.Claim
import GoSem.ClaimJoined
import GoSem.ClaimMapViews
import Derived.JoinedTies
import Derived.KernelRfl
namespace Go.Proofs.Ytmcleffpjfeegaa
/- THE CELL 'sum', in the pinned program and in every row, IS THE sha256 OF THE DUMP (.gsa) THAT YtmcleffpjfeegaaProg.lean LOADS. Nothing in Lean hashes anything: it is a label: what it is worth is what the hold of that sum in a sandbox is worth. -/
noncomputable def Try.pinned : Pinned := { name := "ytmcleffpjfeegaa", sum := "476dc13aa82a947dc9f67c2993f0db8d942790509739fce8b5418eb57956a93c", checked := Try.checked }
namespace Rows
def none {H : Type} : Left H := { results := [], args := [] }

/-- 'banksmanlaw13.ReadsTell': WHATEVER THE INPUT: true; the input reads as it did. -/
def readsTellSpec : ChangeSpec := { name := "readsTell", fn := fun _ => fun
  | [d1, d2, d3, d4, d5, d6] => { results := [.lit (.bool true)], args := [d1, d2, d3, d4, d5, d6] }
  | _ => none }
def readsTellRow : OpenClaim := { program := "ytmcleffpjfeegaa", sum := "476dc13aa82a947dc9f67c2993f0db8d942790509739fce8b5418eb57956a93c", func := "banksman/banksmanlaw13.ReadsTell", spec := "readsTell", inPlace := ["internal/bytealg.Compare", "slices.overlaps[banksman/api.Span]"], unfollowed := true, recurses := true, apart := false }
def ReadsTellSaid : Prop := readsTellRow.holds Try.pinned (OpenSpec.ofChange readsTellSpec)

/-- ITS FALSE NEIGHBOUR: 'it returns false'. Refute it at one input. -/
def readsTellWrong : ChangeSpec := { name := "readsTell", fn := fun _ => fun
  | [d1, d2, d3, d4, d5, d6] => { results := [.lit (.bool false)], args := [d1, d2, d3, d4, d5, d6] }
  | _ => none }
def ReadsTellWrongFalsely : Prop := readsTellRow.holds Try.pinned (OpenSpec.ofChange readsTellWrong)

/-- 'banksmanlaw13.ReadsHold': WHATEVER THE INPUT: true; the input reads as it did. -/
def readsHoldSpec : ChangeSpec := { name := "readsHold", fn := fun _ => fun
  | [d1, d2, d3] => { results := [.lit (.bool true)], args := [d1, d2, d3] }
  | _ => none }
def readsHoldRow : OpenClaim := { program := "ytmcleffpjfeegaa", sum := "476dc13aa82a947dc9f67c2993f0db8d942790509739fce8b5418eb57956a93c", func := "banksman/banksmanlaw13.ReadsHold", spec := "readsHold", inPlace := ["internal/bytealg.Compare", "slices.overlaps[banksman/api.Span]"], unfollowed := true, recurses := true, apart := false }
def ReadsHoldSaid : Prop := readsHoldRow.holds Try.pinned (OpenSpec.ofChange readsHoldSpec)

/-- ITS FALSE NEIGHBOUR: 'it returns false'. Refute it at one input. -/
def readsHoldWrong : ChangeSpec := { name := "readsHold", fn := fun _ => fun
  | [d1, d2, d3] => { results := [.lit (.bool false)], args := [d1, d2, d3] }
  | _ => none }
def ReadsHoldWrongFalsely : Prop := readsHoldRow.holds Try.pinned (OpenSpec.ofChange readsHoldWrong)

/-- 'banksmanlaw13.ReadsKeep': WHATEVER THE INPUT: true; the input reads as it did. -/
def readsKeepSpec : ChangeSpec := { name := "readsKeep", fn := fun _ => fun
  | [d1, d2, d3] => { results := [.lit (.bool true)], args := [d1, d2, d3] }
  | _ => none }
def readsKeepRow : OpenClaim := { program := "ytmcleffpjfeegaa", sum := "476dc13aa82a947dc9f67c2993f0db8d942790509739fce8b5418eb57956a93c", func := "banksman/banksmanlaw13.ReadsKeep", spec := "readsKeep", inPlace := ["internal/bytealg.Compare", "slices.overlaps[banksman/api.Span]"], unfollowed := true, recurses := true, apart := false }
def ReadsKeepSaid : Prop := readsKeepRow.holds Try.pinned (OpenSpec.ofChange readsKeepSpec)

/-- ITS FALSE NEIGHBOUR: 'it returns false'. Refute it at one input. -/
def readsKeepWrong : ChangeSpec := { name := "readsKeep", fn := fun _ => fun
  | [d1, d2, d3] => { results := [.lit (.bool false)], args := [d1, d2, d3] }
  | _ => none }
def ReadsKeepWrongFalsely : Prop := readsKeepRow.holds Try.pinned (OpenSpec.ofChange readsKeepWrong)

/-- 'banksmanlaw13.ReadsBoth': WHATEVER THE INPUT: true; the input reads as it did. -/
def readsBothSpec : ChangeSpec := { name := "readsBoth", fn := fun _ => fun
  | [d1, d2, d3, d4, d5, d6, d7] => { results := [.lit (.bool true)], args := [d1, d2, d3, d4, d5, d6, d7] }
  | _ => none }
def readsBothRow : OpenClaim := { program := "ytmcleffpjfeegaa", sum := "476dc13aa82a947dc9f67c2993f0db8d942790509739fce8b5418eb57956a93c", func := "banksman/banksmanlaw13.ReadsBoth", spec := "readsBoth", inPlace := ["internal/bytealg.Compare", "slices.overlaps[banksman/api.Span]"], unfollowed := true, recurses := true, apart := false }
def ReadsBothSaid : Prop := readsBothRow.holds Try.pinned (OpenSpec.ofChange readsBothSpec)

/-- ITS FALSE NEIGHBOUR: 'it returns false'. Refute it at one input. -/
def readsBothWrong : ChangeSpec := { name := "readsBoth", fn := fun _ => fun
  | [d1, d2, d3, d4, d5, d6, d7] => { results := [.lit (.bool false)], args := [d1, d2, d3, d4, d5, d6, d7] }
  | _ => none }
def ReadsBothWrongFalsely : Prop := readsBothRow.holds Try.pinned (OpenSpec.ofChange readsBothWrong)

/- THE SECOND FORM. 'bulk': how many values and letters a reading holds, each counted each time it is reached (what is shared counts as often as it is met; a slice's spare places count too). A statement '..UptoSaid' is the law's where the arguments, and the package variables that the reading takes, are together of bulk at most 1048576: NARROWER than '..Said'. Prove '..Said' where nothing that the law and all that it calls make is longer than what came in: it says more and counts as full. Else prove '..UptoSaid'. A law counts once. -/
mutual
def uptoBulk {H : Type} : DataW H → Nat
  | .lit (.string bytes) => bytes.length + 1
  | .lit _ => 1
  | .nil => 1
  | .ptr d => uptoBulk d + 1
  | .slice elems spare => uptoBulkAll elems + uptoBulkAll spare + 1
  | .agg parts => uptoBulkAll parts + 1
  | .iface _ d => uptoBulk d + 1
  | .map entries => uptoBulkEntries entries + 1
  | .held _ => 1
def uptoBulkAll {H : Type} : List (DataW H) → Nat
  | [] => 0
  | d :: r => uptoBulk d + uptoBulkAll r
def uptoBulkEntries {H : Type} : List (Lit × DataW H) → Nat
  | [] => 0
  | x :: r => uptoBulkEntry x + uptoBulkEntries r
def uptoBulkEntry {H : Type} : Lit × DataW H → Nat
  | (.string bytes, d) => bytes.length + uptoBulk d + 1
  | (_, d) => uptoBulk d + 1
 end
def uptoSmall : (H : Type) → List (DataW H) → Bool := fun _ ds => decide (uptoBulkAll ds ≤ 1048576)
def OpenSpec.upto (s : _root_.Go.ChangeSpec) : _root_.Go.OpenSpec := { _root_.Go.OpenSpec.ofChange s with cond := some uptoSmall }

/-- 'banksmanlaw13.ReadsTell', WHERE WHAT IT READS IS OF BULK AT MOST 1048576: true; the input reads as it did. -/
def readsTellUptoRow : OpenClaim := { program := "ytmcleffpjfeegaa", sum := "476dc13aa82a947dc9f67c2993f0db8d942790509739fce8b5418eb57956a93c", func := "banksman/banksmanlaw13.ReadsTell", spec := "readsTell", inPlace := ["internal/bytealg.Compare", "slices.overlaps[banksman/api.Span]"], unfollowed := true, recurses := true, apart := false, narrowed := true }
def ReadsTellUptoSaid : Prop := readsTellUptoRow.holds Try.pinned (OpenSpec.upto readsTellSpec)

/-- 'banksmanlaw13.ReadsHold', WHERE WHAT IT READS IS OF BULK AT MOST 1048576: true; the input reads as it did. -/
def readsHoldUptoRow : OpenClaim := { program := "ytmcleffpjfeegaa", sum := "476dc13aa82a947dc9f67c2993f0db8d942790509739fce8b5418eb57956a93c", func := "banksman/banksmanlaw13.ReadsHold", spec := "readsHold", inPlace := ["internal/bytealg.Compare", "slices.overlaps[banksman/api.Span]"], unfollowed := true, recurses := true, apart := false, narrowed := true }
def ReadsHoldUptoSaid : Prop := readsHoldUptoRow.holds Try.pinned (OpenSpec.upto readsHoldSpec)

/-- 'banksmanlaw13.ReadsKeep', WHERE WHAT IT READS IS OF BULK AT MOST 1048576: true; the input reads as it did. -/
def readsKeepUptoRow : OpenClaim := { program := "ytmcleffpjfeegaa", sum := "476dc13aa82a947dc9f67c2993f0db8d942790509739fce8b5418eb57956a93c", func := "banksman/banksmanlaw13.ReadsKeep", spec := "readsKeep", inPlace := ["internal/bytealg.Compare", "slices.overlaps[banksman/api.Span]"], unfollowed := true, recurses := true, apart := false, narrowed := true }
def ReadsKeepUptoSaid : Prop := readsKeepUptoRow.holds Try.pinned (OpenSpec.upto readsKeepSpec)

/-- 'banksmanlaw13.ReadsBoth', WHERE WHAT IT READS IS OF BULK AT MOST 1048576: true; the input reads as it did. -/
def readsBothUptoRow : OpenClaim := { program := "ytmcleffpjfeegaa", sum := "476dc13aa82a947dc9f67c2993f0db8d942790509739fce8b5418eb57956a93c", func := "banksman/banksmanlaw13.ReadsBoth", spec := "readsBoth", inPlace := ["internal/bytealg.Compare", "slices.overlaps[banksman/api.Span]"], unfollowed := true, recurses := true, apart := false, narrowed := true }
def ReadsBothUptoSaid : Prop := readsBothUptoRow.holds Try.pinned (OpenSpec.upto readsBothSpec)

end Rows
end Go.Proofs.Ytmcleffpjfeegaa
