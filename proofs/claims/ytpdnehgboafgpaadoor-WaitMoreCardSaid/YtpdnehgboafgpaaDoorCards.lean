/-
  DERIVED. GIVEN WITH THE SEED: THE CARDS: each row of YtpdnehgboafgpaaDoorRows.lean that lists a variable, with what it lists TIED to the program's text (the seventh form; the later family's looks); each row that meets fmt, with fmt's text TOLD by the authors' own Lean function (tested against real Go, not proved from fmt's source: count such statements apart). THE CARD IS WHAT COUNTS. Prove the row's statement (the work); the ties are given (YtpdnehgboafgpaaDoorTie.lean); close each card by the builder's one call (the guide's Derived/Test/ToyasCard.lean, 'card_holds'). Laid BY PROGRAM, IN A SANDBOX (cutbox-door.mjs). By AI agents, Wed Nov 11 2026. No macro, syntax, notation, axiom, sorry.
-/
import Derived.Test.YtpdnehgboafgpaaDoorRows
import GoSem.ClaimSeven
namespace Go.Proofs.YtpdnehgboafgpaaDoor
namespace Rows

/-- THE TIED CARD OF 'banksmanlaw11.LockTells'. -/
def lockTellsCard : Claim7 := { stood := { row := lockTellsRow, standIns := [], harness := (true, "1c695df0e1b89509df6cd8104efd446eb84bd0101d873b3f29d4aff8e42d584e"), looks := false }, kinds := [], alts := [], laidByText := true, laidKinds := [.data], laidTests := true, laidLooks := .later }
def LockTellsCardSaid : Prop := Claim7.holds Tryd.pinned (.plain (OpenSpec.ofChange lockTellsSpec)) lockTellsCard

/-- THE TIED CARD OF 'banksmanlaw12.WaitTells'. -/
def waitTellsCard : Claim7 := { stood := { row := waitTellsRow, standIns := [], harness := (true, "1c695df0e1b89509df6cd8104efd446eb84bd0101d873b3f29d4aff8e42d584e"), looks := false }, kinds := [], alts := [], laidByText := true, laidKinds := [.data], laidTests := true, laidLooks := .later }
def WaitTellsCardSaid : Prop := Claim7.holds Tryd.pinned (.plain (OpenSpec.ofChange waitTellsSpec)) waitTellsCard

/-- THE TIED CARD OF 'banksmanlaw12.WaitBreaks'. -/
def waitBreaksCard : Claim7 := { stood := { row := waitBreaksRow, standIns := [], harness := (true, "1c695df0e1b89509df6cd8104efd446eb84bd0101d873b3f29d4aff8e42d584e"), looks := false }, kinds := [], alts := [], laidByText := true, laidKinds := [.data], laidTests := true, laidLooks := .later }
def WaitBreaksCardSaid : Prop := Claim7.holds Tryd.pinned (.plain (OpenSpec.ofChange waitBreaksSpec)) waitBreaksCard

/-- THE TIED CARD OF 'banksmanlaw12.WaitMore'. -/
def waitMoreCard : Claim7 := { stood := { row := waitMoreRow, standIns := [], harness := (true, "1c695df0e1b89509df6cd8104efd446eb84bd0101d873b3f29d4aff8e42d584e"), looks := false }, kinds := [], alts := [], laidByText := true, laidKinds := [.data], laidTests := true, laidLooks := .later }
def WaitMoreCardSaid : Prop := Claim7.holds Tryd.pinned (.plain (OpenSpec.ofChange waitMoreSpec)) waitMoreCard

/-- THE TIED CARD OF 'banksmanlaw12.WaitLess'. -/
def waitLessCard : Claim7 := { stood := { row := waitLessRow, standIns := [], harness := (true, "1c695df0e1b89509df6cd8104efd446eb84bd0101d873b3f29d4aff8e42d584e"), looks := false }, kinds := [], alts := [], laidByText := true, laidKinds := [.data], laidTests := true, laidLooks := .later }
def WaitLessCardSaid : Prop := Claim7.holds Tryd.pinned (.plain (OpenSpec.ofChange waitLessSpec)) waitLessCard

/-- THE SECOND FORM's CARD OF 'banksmanlaw11.LockTells'. -/
def lockTellsUptoCard : Claim7 := { stood := { row := lockTellsUptoRow, standIns := [], harness := (true, "1c695df0e1b89509df6cd8104efd446eb84bd0101d873b3f29d4aff8e42d584e"), looks := false }, kinds := [], alts := [], laidByText := true, laidKinds := [.data], laidTests := true, laidLooks := .later }
def LockTellsUptoCardSaid : Prop := Claim7.holds Tryd.pinned (.plain (OpenSpec.upto lockTellsSpec)) lockTellsUptoCard

/-- THE SECOND FORM's CARD OF 'banksmanlaw12.WaitTells'. -/
def waitTellsUptoCard : Claim7 := { stood := { row := waitTellsUptoRow, standIns := [], harness := (true, "1c695df0e1b89509df6cd8104efd446eb84bd0101d873b3f29d4aff8e42d584e"), looks := false }, kinds := [], alts := [], laidByText := true, laidKinds := [.data], laidTests := true, laidLooks := .later }
def WaitTellsUptoCardSaid : Prop := Claim7.holds Tryd.pinned (.plain (OpenSpec.upto waitTellsSpec)) waitTellsUptoCard

/-- THE SECOND FORM's CARD OF 'banksmanlaw12.WaitBreaks'. -/
def waitBreaksUptoCard : Claim7 := { stood := { row := waitBreaksUptoRow, standIns := [], harness := (true, "1c695df0e1b89509df6cd8104efd446eb84bd0101d873b3f29d4aff8e42d584e"), looks := false }, kinds := [], alts := [], laidByText := true, laidKinds := [.data], laidTests := true, laidLooks := .later }
def WaitBreaksUptoCardSaid : Prop := Claim7.holds Tryd.pinned (.plain (OpenSpec.upto waitBreaksSpec)) waitBreaksUptoCard

/-- THE SECOND FORM's CARD OF 'banksmanlaw12.WaitMore'. -/
def waitMoreUptoCard : Claim7 := { stood := { row := waitMoreUptoRow, standIns := [], harness := (true, "1c695df0e1b89509df6cd8104efd446eb84bd0101d873b3f29d4aff8e42d584e"), looks := false }, kinds := [], alts := [], laidByText := true, laidKinds := [.data], laidTests := true, laidLooks := .later }
def WaitMoreUptoCardSaid : Prop := Claim7.holds Tryd.pinned (.plain (OpenSpec.upto waitMoreSpec)) waitMoreUptoCard

/-- THE SECOND FORM's CARD OF 'banksmanlaw12.WaitLess'. -/
def waitLessUptoCard : Claim7 := { stood := { row := waitLessUptoRow, standIns := [], harness := (true, "1c695df0e1b89509df6cd8104efd446eb84bd0101d873b3f29d4aff8e42d584e"), looks := false }, kinds := [], alts := [], laidByText := true, laidKinds := [.data], laidTests := true, laidLooks := .later }
def WaitLessUptoCardSaid : Prop := Claim7.holds Tryd.pinned (.plain (OpenSpec.upto waitLessSpec)) waitLessUptoCard
end Rows
end Go.Proofs.YtpdnehgboafgpaaDoor
