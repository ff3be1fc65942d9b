/-
  NARROWER THAN 'FOR EVERY INPUT', by the rows' own cells (each row's printed sentence says how): StoreTells: loops · StoreReads: loops · StoreVacuum: loops · StoreScans: loops · StoreParts: loops · StoreApart: loops · StoreOpen: loops · StoreTurns: loops.
  DERIVED. THE GIVEN ROWS OF THIS SEAT. 8 by the template 'for every input the law returns true; each argument reads behind the call as it read before'; 0 by the template 'total and deterministic' (their statements: YtlpfhgdnmjkngaaGreatTotals.lean).
  GIVEN WITH THE SEED: the statements are not yours to turn. If you find one false, say at which input.
  Laid BY PROGRAM, IN A SANDBOX (cutbox-rows.mjs): the forced cells as the released guide's own fill.sh prints them over the translation 39b72095ce981568… (all of the seat's roots in one cut). By AI agents, Wed Nov 11 2026. No macro, syntax, notation, axiom, sorry.
-/
import Derived.Test.YtlpfhgdnmjkngaaGreatChecked
import GoSem.Claim
import GoSem.ClaimJoined
import GoSem.ClaimMapViews
import Derived.JoinedTies
import Derived.KernelRfl
namespace Go.Proofs.YtlpfhgdnmjkngaaGreat
/- THE CELL 'sum', in the pinned program and in every row, IS THE sha256 OF THE DUMP (.gsa) THAT YtlpfhgdnmjkngaaGreatProg.lean LOADS. Nothing in Lean hashes anything: it is a label: what it is worth is what the hold of that sum in a sandbox is worth. -/
noncomputable def Tryz.pinned : Pinned := { name := "ytlpfhgdnmjkngaagreat", sum := "39b72095ce9815686955ab2553a95c0f7429fb2c666ef56d9b33e342643c13d7", checked := Tryz.checked }
namespace Rows
def none {H : Type} : Left H := { results := [], args := [] }

/-- 'banksmanlaw07.StoreTells': WHATEVER THE INPUT: true; the input reads as it did. -/
def storeTellsSpec : ChangeSpec := { name := "storeTells", fn := fun _ => fun
  | [d1, d2, d3, d4, d5] => { results := [.lit (.bool true)], args := [d1, d2, d3, d4, d5] }
  | _ => none }
def storeTellsRow : OpenClaim := { program := "ytlpfhgdnmjkngaagreat", sum := "39b72095ce9815686955ab2553a95c0f7429fb2c666ef56d9b33e342643c13d7", func := "banksman/banksmanlaw07.StoreTells", spec := "storeTells", inPlace := ["internal/bytealg.Compare", "slices.overlaps[[]byte]", "slices.overlaps[[]banksman/api.Version]", "slices.overlaps[banksman/api.Node]"], unfollowed := true, recurses := true, loops := true, apart := false }
def StoreTellsSaid : Prop := storeTellsRow.holds Tryz.pinned (OpenSpec.ofChange storeTellsSpec)

/-- ITS FALSE NEIGHBOUR: 'it returns false'. Refute it at one input. -/
def storeTellsWrong : ChangeSpec := { name := "storeTells", fn := fun _ => fun
  | [d1, d2, d3, d4, d5] => { results := [.lit (.bool false)], args := [d1, d2, d3, d4, d5] }
  | _ => none }
def StoreTellsWrongFalsely : Prop := storeTellsRow.holds Tryz.pinned (OpenSpec.ofChange storeTellsWrong)

/-- 'banksmanlaw07.StoreReads': WHATEVER THE INPUT: true; the input reads as it did. -/
def storeReadsSpec : ChangeSpec := { name := "storeReads", fn := fun _ => fun
  | [d1, d2, d3, d4, d5, d6] => { results := [.lit (.bool true)], args := [d1, d2, d3, d4, d5, d6] }
  | _ => none }
def storeReadsRow : OpenClaim := { program := "ytlpfhgdnmjkngaagreat", sum := "39b72095ce9815686955ab2553a95c0f7429fb2c666ef56d9b33e342643c13d7", func := "banksman/banksmanlaw07.StoreReads", spec := "storeReads", inPlace := ["internal/bytealg.Compare", "slices.overlaps[[]byte]", "slices.overlaps[[]banksman/api.Version]", "slices.overlaps[banksman/api.Node]"], unfollowed := true, recurses := true, loops := true, apart := false }
def StoreReadsSaid : Prop := storeReadsRow.holds Tryz.pinned (OpenSpec.ofChange storeReadsSpec)

/-- ITS FALSE NEIGHBOUR: 'it returns false'. Refute it at one input. -/
def storeReadsWrong : ChangeSpec := { name := "storeReads", fn := fun _ => fun
  | [d1, d2, d3, d4, d5, d6] => { results := [.lit (.bool false)], args := [d1, d2, d3, d4, d5, d6] }
  | _ => none }
def StoreReadsWrongFalsely : Prop := storeReadsRow.holds Tryz.pinned (OpenSpec.ofChange storeReadsWrong)

/-- 'banksmanlaw07.StoreVacuum': WHATEVER THE INPUT: true; the input reads as it did. -/
def storeVacuumSpec : ChangeSpec := { name := "storeVacuum", fn := fun _ => fun
  | [d1, d2, d3, d4] => { results := [.lit (.bool true)], args := [d1, d2, d3, d4] }
  | _ => none }
def storeVacuumRow : OpenClaim := { program := "ytlpfhgdnmjkngaagreat", sum := "39b72095ce9815686955ab2553a95c0f7429fb2c666ef56d9b33e342643c13d7", func := "banksman/banksmanlaw07.StoreVacuum", spec := "storeVacuum", inPlace := ["internal/bytealg.Compare", "slices.overlaps[[]byte]", "slices.overlaps[[]banksman/api.Version]", "slices.overlaps[banksman/api.Node]"], unfollowed := true, recurses := true, loops := true, apart := false }
def StoreVacuumSaid : Prop := storeVacuumRow.holds Tryz.pinned (OpenSpec.ofChange storeVacuumSpec)

/-- ITS FALSE NEIGHBOUR: 'it returns false'. Refute it at one input. -/
def storeVacuumWrong : ChangeSpec := { name := "storeVacuum", fn := fun _ => fun
  | [d1, d2, d3, d4] => { results := [.lit (.bool false)], args := [d1, d2, d3, d4] }
  | _ => none }
def StoreVacuumWrongFalsely : Prop := storeVacuumRow.holds Tryz.pinned (OpenSpec.ofChange storeVacuumWrong)

/-- 'banksmanlaw07.StoreScans': WHATEVER THE INPUT: true; the input reads as it did. -/
def storeScansSpec : ChangeSpec := { name := "storeScans", fn := fun _ => fun
  | [d1, d2, d3, d4] => { results := [.lit (.bool true)], args := [d1, d2, d3, d4] }
  | _ => none }
def storeScansRow : OpenClaim := { program := "ytlpfhgdnmjkngaagreat", sum := "39b72095ce9815686955ab2553a95c0f7429fb2c666ef56d9b33e342643c13d7", func := "banksman/banksmanlaw07.StoreScans", spec := "storeScans", inPlace := ["internal/bytealg.Compare", "slices.overlaps[[]byte]", "slices.overlaps[[]banksman/api.Version]", "slices.overlaps[banksman/api.Node]"], unfollowed := true, recurses := true, loops := true, apart := false }
def StoreScansSaid : Prop := storeScansRow.holds Tryz.pinned (OpenSpec.ofChange storeScansSpec)

/-- ITS FALSE NEIGHBOUR: 'it returns false'. Refute it at one input. -/
def storeScansWrong : ChangeSpec := { name := "storeScans", fn := fun _ => fun
  | [d1, d2, d3, d4] => { results := [.lit (.bool false)], args := [d1, d2, d3, d4] }
  | _ => none }
def StoreScansWrongFalsely : Prop := storeScansRow.holds Tryz.pinned (OpenSpec.ofChange storeScansWrong)

/-- 'banksmanlaw07.StoreParts': WHATEVER THE INPUT: true; the input reads as it did. -/
def storePartsSpec : ChangeSpec := { name := "storeParts", fn := fun _ => fun
  | [d1, d2, d3, d4] => { results := [.lit (.bool true)], args := [d1, d2, d3, d4] }
  | _ => none }
def storePartsRow : OpenClaim := { program := "ytlpfhgdnmjkngaagreat", sum := "39b72095ce9815686955ab2553a95c0f7429fb2c666ef56d9b33e342643c13d7", func := "banksman/banksmanlaw07.StoreParts", spec := "storeParts", inPlace := ["internal/bytealg.Compare", "slices.overlaps[[]byte]", "slices.overlaps[[]banksman/api.Version]", "slices.overlaps[banksman/api.Node]"], unfollowed := true, recurses := true, loops := true, apart := false }
def StorePartsSaid : Prop := storePartsRow.holds Tryz.pinned (OpenSpec.ofChange storePartsSpec)

/-- ITS FALSE NEIGHBOUR: 'it returns false'. Refute it at one input. -/
def storePartsWrong : ChangeSpec := { name := "storeParts", fn := fun _ => fun
  | [d1, d2, d3, d4] => { results := [.lit (.bool false)], args := [d1, d2, d3, d4] }
  | _ => none }
def StorePartsWrongFalsely : Prop := storePartsRow.holds Tryz.pinned (OpenSpec.ofChange storePartsWrong)

/-- 'banksmanlaw07.StoreApart': WHATEVER THE INPUT: true; the input reads as it did. -/
def storeApartSpec : ChangeSpec := { name := "storeApart", fn := fun _ => fun
  | [d1, d2, d3, d4, d5] => { results := [.lit (.bool true)], args := [d1, d2, d3, d4, d5] }
  | _ => none }
def storeApartRow : OpenClaim := { program := "ytlpfhgdnmjkngaagreat", sum := "39b72095ce9815686955ab2553a95c0f7429fb2c666ef56d9b33e342643c13d7", func := "banksman/banksmanlaw07.StoreApart", spec := "storeApart", inPlace := ["internal/bytealg.Compare", "slices.overlaps[[]byte]", "slices.overlaps[[]banksman/api.Version]", "slices.overlaps[banksman/api.Node]"], unfollowed := true, recurses := true, loops := true, apart := false }
def StoreApartSaid : Prop := storeApartRow.holds Tryz.pinned (OpenSpec.ofChange storeApartSpec)

/-- ITS FALSE NEIGHBOUR: 'it returns false'. Refute it at one input. -/
def storeApartWrong : ChangeSpec := { name := "storeApart", fn := fun _ => fun
  | [d1, d2, d3, d4, d5] => { results := [.lit (.bool false)], args := [d1, d2, d3, d4, d5] }
  | _ => none }
def StoreApartWrongFalsely : Prop := storeApartRow.holds Tryz.pinned (OpenSpec.ofChange storeApartWrong)

/-- 'banksmanlaw07.StoreOpen': WHATEVER THE INPUT: true; the input reads as it did. -/
def storeOpenSpec : ChangeSpec := { name := "storeOpen", fn := fun _ => fun
  | [d1, d2, d3, d4] => { results := [.lit (.bool true)], args := [d1, d2, d3, d4] }
  | _ => none }
def storeOpenRow : OpenClaim := { program := "ytlpfhgdnmjkngaagreat", sum := "39b72095ce9815686955ab2553a95c0f7429fb2c666ef56d9b33e342643c13d7", func := "banksman/banksmanlaw07.StoreOpen", spec := "storeOpen", inPlace := ["internal/bytealg.Compare", "slices.overlaps[[]byte]", "slices.overlaps[[]banksman/api.Version]", "slices.overlaps[banksman/api.Node]"], unfollowed := true, recurses := true, loops := true, apart := false }
def StoreOpenSaid : Prop := storeOpenRow.holds Tryz.pinned (OpenSpec.ofChange storeOpenSpec)

/-- ITS FALSE NEIGHBOUR: 'it returns false'. Refute it at one input. -/
def storeOpenWrong : ChangeSpec := { name := "storeOpen", fn := fun _ => fun
  | [d1, d2, d3, d4] => { results := [.lit (.bool false)], args := [d1, d2, d3, d4] }
  | _ => none }
def StoreOpenWrongFalsely : Prop := storeOpenRow.holds Tryz.pinned (OpenSpec.ofChange storeOpenWrong)

/-- 'banksmanlaw07.StoreTurns': WHATEVER THE INPUT: true; the input reads as it did. -/
def storeTurnsSpec : ChangeSpec := { name := "storeTurns", fn := fun _ => fun
  | [d1, d2, d3, d4, d5] => { results := [.lit (.bool true)], args := [d1, d2, d3, d4, d5] }
  | _ => none }
def storeTurnsRow : OpenClaim := { program := "ytlpfhgdnmjkngaagreat", sum := "39b72095ce9815686955ab2553a95c0f7429fb2c666ef56d9b33e342643c13d7", func := "banksman/banksmanlaw07.StoreTurns", spec := "storeTurns", inPlace := ["internal/bytealg.Compare", "slices.overlaps[[]byte]", "slices.overlaps[[]banksman/api.Version]", "slices.overlaps[banksman/api.Node]"], unfollowed := true, recurses := true, loops := true, apart := false }
def StoreTurnsSaid : Prop := storeTurnsRow.holds Tryz.pinned (OpenSpec.ofChange storeTurnsSpec)

/-- ITS FALSE NEIGHBOUR: 'it returns false'. Refute it at one input. -/
def storeTurnsWrong : ChangeSpec := { name := "storeTurns", fn := fun _ => fun
  | [d1, d2, d3, d4, d5] => { results := [.lit (.bool false)], args := [d1, d2, d3, d4, d5] }
  | _ => none }
def StoreTurnsWrongFalsely : Prop := storeTurnsRow.holds Tryz.pinned (OpenSpec.ofChange storeTurnsWrong)

/- THE SECOND FORM. 'bulk': how many values and letters a reading holds, each counted each time it is reached (what is shared counts as often as it is met; a slice's spare places count too). A statement '..UptoSaid' is the law's where the arguments, and the package variables that the reading takes, are together of bulk at most 1048576: NARROWER than '..Said'. Prove '..Said' where nothing that the law and all that it calls make is longer than what came in: it says more and counts as full. Else prove '..UptoSaid'. A law counts once. -/
mutual
def uptoBulk {H : Type} : DataW H → Nat
  | .lit (.string bytes) => bytes.length + 1
  | .lit _ => 1
  | .nil => 1
  | .ptr d => uptoBulk d + 1
  | .slice elems spare => uptoBulkAll elems + uptoBulkAll spare + 1
  | .agg parts => uptoBulkAll parts + 1
  | .iface _ d => uptoBulk d + 1
  | .map entries => uptoBulkEntries entries + 1
  | .held _ => 1
def uptoBulkAll {H : Type} : List (DataW H) → Nat
  | [] => 0
  | d :: r => uptoBulk d + uptoBulkAll r
def uptoBulkEntries {H : Type} : List (Lit × DataW H) → Nat
  | [] => 0
  | x :: r => uptoBulkEntry x + uptoBulkEntries r
def uptoBulkEntry {H : Type} : Lit × DataW H → Nat
  | (.string bytes, d) => bytes.length + uptoBulk d + 1
  | (_, d) => uptoBulk d + 1
 end
def uptoSmall : (H : Type) → List (DataW H) → Bool := fun _ ds => decide (uptoBulkAll ds ≤ 1048576)
def OpenSpec.upto (s : _root_.Go.ChangeSpec) : _root_.Go.OpenSpec := { _root_.Go.OpenSpec.ofChange s with cond := some uptoSmall }

/-- 'banksmanlaw07.StoreTells', WHERE WHAT IT READS IS OF BULK AT MOST 1048576: true; the input reads as it did. -/
def storeTellsUptoRow : OpenClaim := { program := "ytlpfhgdnmjkngaagreat", sum := "39b72095ce9815686955ab2553a95c0f7429fb2c666ef56d9b33e342643c13d7", func := "banksman/banksmanlaw07.StoreTells", spec := "storeTells", inPlace := ["internal/bytealg.Compare", "slices.overlaps[[]byte]", "slices.overlaps[[]banksman/api.Version]", "slices.overlaps[banksman/api.Node]"], unfollowed := true, recurses := true, loops := true, apart := false, narrowed := true }
def StoreTellsUptoSaid : Prop := storeTellsUptoRow.holds Tryz.pinned (OpenSpec.upto storeTellsSpec)

/-- 'banksmanlaw07.StoreReads', WHERE WHAT IT READS IS OF BULK AT MOST 1048576: true; the input reads as it did. -/
def storeReadsUptoRow : OpenClaim := { program := "ytlpfhgdnmjkngaagreat", sum := "39b72095ce9815686955ab2553a95c0f7429fb2c666ef56d9b33e342643c13d7", func := "banksman/banksmanlaw07.StoreReads", spec := "storeReads", inPlace := ["internal/bytealg.Compare", "slices.overlaps[[]byte]", "slices.overlaps[[]banksman/api.Version]", "slices.overlaps[banksman/api.Node]"], unfollowed := true, recurses := true, loops := true, apart := false, narrowed := true }
def StoreReadsUptoSaid : Prop := storeReadsUptoRow.holds Tryz.pinned (OpenSpec.upto storeReadsSpec)

/-- 'banksmanlaw07.StoreVacuum', WHERE WHAT IT READS IS OF BULK AT MOST 1048576: true; the input reads as it did. -/
def storeVacuumUptoRow : OpenClaim := { program := "ytlpfhgdnmjkngaagreat", sum := "39b72095ce9815686955ab2553a95c0f7429fb2c666ef56d9b33e342643c13d7", func := "banksman/banksmanlaw07.StoreVacuum", spec := "storeVacuum", inPlace := ["internal/bytealg.Compare", "slices.overlaps[[]byte]", "slices.overlaps[[]banksman/api.Version]", "slices.overlaps[banksman/api.Node]"], unfollowed := true, recurses := true, loops := true, apart := false, narrowed := true }
def StoreVacuumUptoSaid : Prop := storeVacuumUptoRow.holds Tryz.pinned (OpenSpec.upto storeVacuumSpec)

/-- 'banksmanlaw07.StoreScans', WHERE WHAT IT READS IS OF BULK AT MOST 1048576: true; the input reads as it did. -/
def storeScansUptoRow : OpenClaim := { program := "ytlpfhgdnmjkngaagreat", sum := "39b72095ce9815686955ab2553a95c0f7429fb2c666ef56d9b33e342643c13d7", func := "banksman/banksmanlaw07.StoreScans", spec := "storeScans", inPlace := ["internal/bytealg.Compare", "slices.overlaps[[]byte]", "slices.overlaps[[]banksman/api.Version]", "slices.overlaps[banksman/api.Node]"], unfollowed := true, recurses := true, loops := true, apart := false, narrowed := true }
def StoreScansUptoSaid : Prop := storeScansUptoRow.holds Tryz.pinned (OpenSpec.upto storeScansSpec)

/-- 'banksmanlaw07.StoreParts', WHERE WHAT IT READS IS OF BULK AT MOST 1048576: true; the input reads as it did. -/
def storePartsUptoRow : OpenClaim := { program := "ytlpfhgdnmjkngaagreat", sum := "39b72095ce9815686955ab2553a95c0f7429fb2c666ef56d9b33e342643c13d7", func := "banksman/banksmanlaw07.StoreParts", spec := "storeParts", inPlace := ["internal/bytealg.Compare", "slices.overlaps[[]byte]", "slices.overlaps[[]banksman/api.Version]", "slices.overlaps[banksman/api.Node]"], unfollowed := true, recurses := true, loops := true, apart := false, narrowed := true }
def StorePartsUptoSaid : Prop := storePartsUptoRow.holds Tryz.pinned (OpenSpec.upto storePartsSpec)

/-- 'banksmanlaw07.StoreApart', WHERE WHAT IT READS IS OF BULK AT MOST 1048576: true; the input reads as it did. -/
def storeApartUptoRow : OpenClaim := { program := "ytlpfhgdnmjkngaagreat", sum := "39b72095ce9815686955ab2553a95c0f7429fb2c666ef56d9b33e342643c13d7", func := "banksman/banksmanlaw07.StoreApart", spec := "storeApart", inPlace := ["internal/bytealg.Compare", "slices.overlaps[[]byte]", "slices.overlaps[[]banksman/api.Version]", "slices.overlaps[banksman/api.Node]"], unfollowed := true, recurses := true, loops := true, apart := false, narrowed := true }
def StoreApartUptoSaid : Prop := storeApartUptoRow.holds Tryz.pinned (OpenSpec.upto storeApartSpec)

/-- 'banksmanlaw07.StoreOpen', WHERE WHAT IT READS IS OF BULK AT MOST 1048576: true; the input reads as it did. -/
def storeOpenUptoRow : OpenClaim := { program := "ytlpfhgdnmjkngaagreat", sum := "39b72095ce9815686955ab2553a95c0f7429fb2c666ef56d9b33e342643c13d7", func := "banksman/banksmanlaw07.StoreOpen", spec := "storeOpen", inPlace := ["internal/bytealg.Compare", "slices.overlaps[[]byte]", "slices.overlaps[[]banksman/api.Version]", "slices.overlaps[banksman/api.Node]"], unfollowed := true, recurses := true, loops := true, apart := false, narrowed := true }
def StoreOpenUptoSaid : Prop := storeOpenUptoRow.holds Tryz.pinned (OpenSpec.upto storeOpenSpec)

/-- 'banksmanlaw07.StoreTurns', WHERE WHAT IT READS IS OF BULK AT MOST 1048576: true; the input reads as it did. -/
def storeTurnsUptoRow : OpenClaim := { program := "ytlpfhgdnmjkngaagreat", sum := "39b72095ce9815686955ab2553a95c0f7429fb2c666ef56d9b33e342643c13d7", func := "banksman/banksmanlaw07.StoreTurns", spec := "storeTurns", inPlace := ["internal/bytealg.Compare", "slices.overlaps[[]byte]", "slices.overlaps[[]banksman/api.Version]", "slices.overlaps[banksman/api.Node]"], unfollowed := true, recurses := true, loops := true, apart := false, narrowed := true }
def StoreTurnsUptoSaid : Prop := storeTurnsUptoRow.holds Tryz.pinned (OpenSpec.upto storeTurnsSpec)

end Rows
end Go.Proofs.YtlpfhgdnmjkngaaGreat
