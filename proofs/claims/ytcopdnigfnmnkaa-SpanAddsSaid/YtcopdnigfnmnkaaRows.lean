/-
  No cell of these rows narrows 'for every input' (looked for: loops, veiled, ifaces, maps, wideKeys, modest, calm, conditions, laid).
  DERIVED. THE GIVEN ROWS OF THIS SEAT. 5 by the template 'for every input the law returns true; each argument reads behind the call as it read before'; 0 by the template 'total and deterministic' (their statements: YtcopdnigfnmnkaaTotals.lean).
  GIVEN WITH THE SEED: the statements are not yours to turn. If you find one false, say at which input.
  Laid BY PROGRAM, IN A SANDBOX (cutbox-rows.mjs): the forced cells as the released guide's own fill.sh prints them over the translation e86d6bd9fd2a9e1f… (all of the seat's roots in one cut). By AI agents, Wed Nov 11 2026. No macro, syntax, notation, axiom, sorry.
-/
import Derived.Test.YtcopdnigfnmnkaaChecked
import GoSem.Claim
import GoSem.ClaimJoined
import GoSem.ClaimMapViews
import Derived.JoinedTies
import Derived.KernelRfl
namespace Go.Proofs.Ytcopdnigfnmnkaa
/- THE CELL 'sum', in the pinned program and in every row, IS THE sha256 OF THE DUMP (.gsa) THAT YtcopdnigfnmnkaaProg.lean LOADS. Nothing in Lean hashes anything: it is a label: what it is worth is what the hold of that sum in a sandbox is worth. -/
noncomputable def Try.pinned : Pinned := { name := "ytcopdnigfnmnkaa", sum := "e86d6bd9fd2a9e1f24f8331ac8a71bc9cf6ef284cc20886745be48e8f281d9d4", checked := Try.checked }
namespace Rows
def none {H : Type} : Left H := { results := [], args := [] }

/-- 'banksmanlaw10.SpanTells': WHATEVER THE INPUT: true; the input reads as it did. -/
def spanTellsSpec : ChangeSpec := { name := "spanTells", fn := fun _ => fun
  | [d1, d2, d3, d4] => { results := [.lit (.bool true)], args := [d1, d2, d3, d4] }
  | _ => none }
def spanTellsRow : OpenClaim := { program := "ytcopdnigfnmnkaa", sum := "e86d6bd9fd2a9e1f24f8331ac8a71bc9cf6ef284cc20886745be48e8f281d9d4", func := "banksman/banksmanlaw10.SpanTells", spec := "spanTells", inPlace := ["internal/bytealg.Compare", "slices.overlaps[banksman/api.Span]"], unfollowed := true, recurses := true, apart := false }
def SpanTellsSaid : Prop := spanTellsRow.holds Try.pinned (OpenSpec.ofChange spanTellsSpec)

/-- ITS FALSE NEIGHBOUR: 'it returns false'. Refute it at one input. -/
def spanTellsWrong : ChangeSpec := { name := "spanTells", fn := fun _ => fun
  | [d1, d2, d3, d4] => { results := [.lit (.bool false)], args := [d1, d2, d3, d4] }
  | _ => none }
def SpanTellsWrongFalsely : Prop := spanTellsRow.holds Try.pinned (OpenSpec.ofChange spanTellsWrong)

/-- 'banksmanlaw10.SpanAdds': WHATEVER THE INPUT: true; the input reads as it did. -/
def spanAddsSpec : ChangeSpec := { name := "spanAdds", fn := fun _ => fun
  | [d1, d2, d3] => { results := [.lit (.bool true)], args := [d1, d2, d3] }
  | _ => none }
def spanAddsRow : OpenClaim := { program := "ytcopdnigfnmnkaa", sum := "e86d6bd9fd2a9e1f24f8331ac8a71bc9cf6ef284cc20886745be48e8f281d9d4", func := "banksman/banksmanlaw10.SpanAdds", spec := "spanAdds", inPlace := ["internal/bytealg.Compare", "slices.overlaps[banksman/api.Span]"], unfollowed := true, recurses := true, apart := false }
def SpanAddsSaid : Prop := spanAddsRow.holds Try.pinned (OpenSpec.ofChange spanAddsSpec)

/-- ITS FALSE NEIGHBOUR: 'it returns false'. Refute it at one input. -/
def spanAddsWrong : ChangeSpec := { name := "spanAdds", fn := fun _ => fun
  | [d1, d2, d3] => { results := [.lit (.bool false)], args := [d1, d2, d3] }
  | _ => none }
def SpanAddsWrongFalsely : Prop := spanAddsRow.holds Try.pinned (OpenSpec.ofChange spanAddsWrong)

/-- 'banksmanlaw10.SpanKeys': WHATEVER THE INPUT: true; the input reads as it did. -/
def spanKeysSpec : ChangeSpec := { name := "spanKeys", fn := fun _ => fun
  | [d1, d2, d3, d4, d5] => { results := [.lit (.bool true)], args := [d1, d2, d3, d4, d5] }
  | _ => none }
def spanKeysRow : OpenClaim := { program := "ytcopdnigfnmnkaa", sum := "e86d6bd9fd2a9e1f24f8331ac8a71bc9cf6ef284cc20886745be48e8f281d9d4", func := "banksman/banksmanlaw10.SpanKeys", spec := "spanKeys", inPlace := ["internal/bytealg.Compare", "slices.overlaps[banksman/api.Span]"], unfollowed := true, recurses := true, apart := false }
def SpanKeysSaid : Prop := spanKeysRow.holds Try.pinned (OpenSpec.ofChange spanKeysSpec)

/-- ITS FALSE NEIGHBOUR: 'it returns false'. Refute it at one input. -/
def spanKeysWrong : ChangeSpec := { name := "spanKeys", fn := fun _ => fun
  | [d1, d2, d3, d4, d5] => { results := [.lit (.bool false)], args := [d1, d2, d3, d4, d5] }
  | _ => none }
def SpanKeysWrongFalsely : Prop := spanKeysRow.holds Try.pinned (OpenSpec.ofChange spanKeysWrong)

/-- 'banksmanlaw10.SpanKeeps': WHATEVER THE INPUT: true; the input reads as it did. -/
def spanKeepsSpec : ChangeSpec := { name := "spanKeeps", fn := fun _ => fun
  | [d1, d2, d3, d4, d5] => { results := [.lit (.bool true)], args := [d1, d2, d3, d4, d5] }
  | _ => none }
def spanKeepsRow : OpenClaim := { program := "ytcopdnigfnmnkaa", sum := "e86d6bd9fd2a9e1f24f8331ac8a71bc9cf6ef284cc20886745be48e8f281d9d4", func := "banksman/banksmanlaw10.SpanKeeps", spec := "spanKeeps", inPlace := ["internal/bytealg.Compare", "slices.overlaps[banksman/api.Span]"], unfollowed := true, recurses := true, apart := false }
def SpanKeepsSaid : Prop := spanKeepsRow.holds Try.pinned (OpenSpec.ofChange spanKeepsSpec)

/-- ITS FALSE NEIGHBOUR: 'it returns false'. Refute it at one input. -/
def spanKeepsWrong : ChangeSpec := { name := "spanKeeps", fn := fun _ => fun
  | [d1, d2, d3, d4, d5] => { results := [.lit (.bool false)], args := [d1, d2, d3, d4, d5] }
  | _ => none }
def SpanKeepsWrongFalsely : Prop := spanKeepsRow.holds Try.pinned (OpenSpec.ofChange spanKeepsWrong)

/-- 'banksmanlaw10.SpanOn': WHATEVER THE INPUT: true; the input reads as it did. -/
def spanOnSpec : ChangeSpec := { name := "spanOn", fn := fun _ => fun
  | [d1, d2, d3] => { results := [.lit (.bool true)], args := [d1, d2, d3] }
  | _ => none }
def spanOnRow : OpenClaim := { program := "ytcopdnigfnmnkaa", sum := "e86d6bd9fd2a9e1f24f8331ac8a71bc9cf6ef284cc20886745be48e8f281d9d4", func := "banksman/banksmanlaw10.SpanOn", spec := "spanOn", inPlace := ["internal/bytealg.Compare", "slices.overlaps[banksman/api.Span]"], unfollowed := true, recurses := true, apart := false }
def SpanOnSaid : Prop := spanOnRow.holds Try.pinned (OpenSpec.ofChange spanOnSpec)

/-- ITS FALSE NEIGHBOUR: 'it returns false'. Refute it at one input. -/
def spanOnWrong : ChangeSpec := { name := "spanOn", fn := fun _ => fun
  | [d1, d2, d3] => { results := [.lit (.bool false)], args := [d1, d2, d3] }
  | _ => none }
def SpanOnWrongFalsely : Prop := spanOnRow.holds Try.pinned (OpenSpec.ofChange spanOnWrong)

/- THE SECOND FORM. 'bulk': how many values and letters a reading holds, each counted each time it is reached (what is shared counts as often as it is met; a slice's spare places count too). A statement '..UptoSaid' is the law's where the arguments, and the package variables that the reading takes, are together of bulk at most 1048576: NARROWER than '..Said'. Prove '..Said' where nothing that the law and all that it calls make is longer than what came in: it says more and counts as full. Else prove '..UptoSaid'. A law counts once. -/
mutual
def uptoBulk {H : Type} : DataW H → Nat
  | .lit (.string bytes) => bytes.length + 1
  | .lit _ => 1
  | .nil => 1
  | .ptr d => uptoBulk d + 1
  | .slice elems spare => uptoBulkAll elems + uptoBulkAll spare + 1
  | .agg parts => uptoBulkAll parts + 1
  | .iface _ d => uptoBulk d + 1
  | .map entries => uptoBulkEntries entries + 1
  | .held _ => 1
def uptoBulkAll {H : Type} : List (DataW H) → Nat
  | [] => 0
  | d :: r => uptoBulk d + uptoBulkAll r
def uptoBulkEntries {H : Type} : List (Lit × DataW H) → Nat
  | [] => 0
  | x :: r => uptoBulkEntry x + uptoBulkEntries r
def uptoBulkEntry {H : Type} : Lit × DataW H → Nat
  | (.string bytes, d) => bytes.length + uptoBulk d + 1
  | (_, d) => uptoBulk d + 1
 end
def uptoSmall : (H : Type) → List (DataW H) → Bool := fun _ ds => decide (uptoBulkAll ds ≤ 1048576)
def OpenSpec.upto (s : _root_.Go.ChangeSpec) : _root_.Go.OpenSpec := { _root_.Go.OpenSpec.ofChange s with cond := some uptoSmall }

/-- 'banksmanlaw10.SpanTells', WHERE WHAT IT READS IS OF BULK AT MOST 1048576: true; the input reads as it did. -/
def spanTellsUptoRow : OpenClaim := { program := "ytcopdnigfnmnkaa", sum := "e86d6bd9fd2a9e1f24f8331ac8a71bc9cf6ef284cc20886745be48e8f281d9d4", func := "banksman/banksmanlaw10.SpanTells", spec := "spanTells", inPlace := ["internal/bytealg.Compare", "slices.overlaps[banksman/api.Span]"], unfollowed := true, recurses := true, apart := false, narrowed := true }
def SpanTellsUptoSaid : Prop := spanTellsUptoRow.holds Try.pinned (OpenSpec.upto spanTellsSpec)

/-- 'banksmanlaw10.SpanAdds', WHERE WHAT IT READS IS OF BULK AT MOST 1048576: true; the input reads as it did. -/
def spanAddsUptoRow : OpenClaim := { program := "ytcopdnigfnmnkaa", sum := "e86d6bd9fd2a9e1f24f8331ac8a71bc9cf6ef284cc20886745be48e8f281d9d4", func := "banksman/banksmanlaw10.SpanAdds", spec := "spanAdds", inPlace := ["internal/bytealg.Compare", "slices.overlaps[banksman/api.Span]"], unfollowed := true, recurses := true, apart := false, narrowed := true }
def SpanAddsUptoSaid : Prop := spanAddsUptoRow.holds Try.pinned (OpenSpec.upto spanAddsSpec)

/-- 'banksmanlaw10.SpanKeys', WHERE WHAT IT READS IS OF BULK AT MOST 1048576: true; the input reads as it did. -/
def spanKeysUptoRow : OpenClaim := { program := "ytcopdnigfnmnkaa", sum := "e86d6bd9fd2a9e1f24f8331ac8a71bc9cf6ef284cc20886745be48e8f281d9d4", func := "banksman/banksmanlaw10.SpanKeys", spec := "spanKeys", inPlace := ["internal/bytealg.Compare", "slices.overlaps[banksman/api.Span]"], unfollowed := true, recurses := true, apart := false, narrowed := true }
def SpanKeysUptoSaid : Prop := spanKeysUptoRow.holds Try.pinned (OpenSpec.upto spanKeysSpec)

/-- 'banksmanlaw10.SpanKeeps', WHERE WHAT IT READS IS OF BULK AT MOST 1048576: true; the input reads as it did. -/
def spanKeepsUptoRow : OpenClaim := { program := "ytcopdnigfnmnkaa", sum := "e86d6bd9fd2a9e1f24f8331ac8a71bc9cf6ef284cc20886745be48e8f281d9d4", func := "banksman/banksmanlaw10.SpanKeeps", spec := "spanKeeps", inPlace := ["internal/bytealg.Compare", "slices.overlaps[banksman/api.Span]"], unfollowed := true, recurses := true, apart := false, narrowed := true }
def SpanKeepsUptoSaid : Prop := spanKeepsUptoRow.holds Try.pinned (OpenSpec.upto spanKeepsSpec)

/-- 'banksmanlaw10.SpanOn', WHERE WHAT IT READS IS OF BULK AT MOST 1048576: true; the input reads as it did. -/
def spanOnUptoRow : OpenClaim := { program := "ytcopdnigfnmnkaa", sum := "e86d6bd9fd2a9e1f24f8331ac8a71bc9cf6ef284cc20886745be48e8f281d9d4", func := "banksman/banksmanlaw10.SpanOn", spec := "spanOn", inPlace := ["internal/bytealg.Compare", "slices.overlaps[banksman/api.Span]"], unfollowed := true, recurses := true, apart := false, narrowed := true }
def SpanOnUptoSaid : Prop := spanOnUptoRow.holds Try.pinned (OpenSpec.upto spanOnSpec)

end Rows
end Go.Proofs.Ytcopdnigfnmnkaa
