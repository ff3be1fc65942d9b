/-
  DERIVED. GIVEN WITH THE SEED: THE CARDS: each row of YtccoklhmbikfmaaDoorRows.lean that lists a variable, with what it lists TIED to the program's text (the seventh form; the later family's looks); each row that meets fmt, with fmt's text TOLD by the authors' own Lean function (tested against real Go, not proved from fmt's source: count such statements apart). THE CARD IS WHAT COUNTS. Prove the row's statement (the work); the ties are given (YtccoklhmbikfmaaDoorTie.lean); close each card by the builder's one call (the guide's Derived/Test/ToyasCard.lean, 'card_holds'). Laid BY PROGRAM, IN A SANDBOX (cutbox-door.mjs). By AI agents, Wed Nov 11 2026. No macro, syntax, notation, axiom, sorry.
-/
import Derived.Test.YtccoklhmbikfmaaDoorRows
import GoSem.ClaimSeven
namespace Go.Proofs.YtccoklhmbikfmaaDoor
namespace Rows

/-- THE TIED CARD OF 'banksmanlaw11.LockTells'. -/
def lockTellsCard : Claim7 := { stood := { row := lockTellsRow, standIns := [], harness := (true, "f04caa1e23ad278344472a0212184dca7dce2d462c36db72e2d17c8ef3126fe5"), looks := false }, kinds := [], alts := [], laidByText := true, laidKinds := [.data], laidTests := true, laidLooks := .later }
def LockTellsCardSaid : Prop := Claim7.holds Tryd.pinned (.plain (OpenSpec.ofChange lockTellsSpec)) lockTellsCard

/-- THE TIED CARD OF 'banksmanlaw11.LockMay'. -/
def lockMayCard : Claim7 := { stood := { row := lockMayRow, standIns := [], harness := (true, "f04caa1e23ad278344472a0212184dca7dce2d462c36db72e2d17c8ef3126fe5"), looks := false }, kinds := [], alts := [], laidByText := true, laidKinds := [.data], laidTests := true, laidLooks := .later }
def LockMayCardSaid : Prop := Claim7.holds Tryd.pinned (.plain (OpenSpec.ofChange lockMaySpec)) lockMayCard

/-- THE TIED CARD OF 'banksmanlaw11.LockAlone'. -/
def lockAloneCard : Claim7 := { stood := { row := lockAloneRow, standIns := [], harness := (true, "f04caa1e23ad278344472a0212184dca7dce2d462c36db72e2d17c8ef3126fe5"), looks := false }, kinds := [], alts := [], laidByText := true, laidKinds := [.data], laidTests := true, laidLooks := .later }
def LockAloneCardSaid : Prop := Claim7.holds Tryd.pinned (.plain (OpenSpec.ofChange lockAloneSpec)) lockAloneCard

/-- THE SECOND FORM's CARD OF 'banksmanlaw11.LockTells'. -/
def lockTellsUptoCard : Claim7 := { stood := { row := lockTellsUptoRow, standIns := [], harness := (true, "f04caa1e23ad278344472a0212184dca7dce2d462c36db72e2d17c8ef3126fe5"), looks := false }, kinds := [], alts := [], laidByText := true, laidKinds := [.data], laidTests := true, laidLooks := .later }
def LockTellsUptoCardSaid : Prop := Claim7.holds Tryd.pinned (.plain (OpenSpec.upto lockTellsSpec)) lockTellsUptoCard

/-- THE SECOND FORM's CARD OF 'banksmanlaw11.LockMay'. -/
def lockMayUptoCard : Claim7 := { stood := { row := lockMayUptoRow, standIns := [], harness := (true, "f04caa1e23ad278344472a0212184dca7dce2d462c36db72e2d17c8ef3126fe5"), looks := false }, kinds := [], alts := [], laidByText := true, laidKinds := [.data], laidTests := true, laidLooks := .later }
def LockMayUptoCardSaid : Prop := Claim7.holds Tryd.pinned (.plain (OpenSpec.upto lockMaySpec)) lockMayUptoCard

/-- THE SECOND FORM's CARD OF 'banksmanlaw11.LockAlone'. -/
def lockAloneUptoCard : Claim7 := { stood := { row := lockAloneUptoRow, standIns := [], harness := (true, "f04caa1e23ad278344472a0212184dca7dce2d462c36db72e2d17c8ef3126fe5"), looks := false }, kinds := [], alts := [], laidByText := true, laidKinds := [.data], laidTests := true, laidLooks := .later }
def LockAloneUptoCardSaid : Prop := Claim7.holds Tryd.pinned (.plain (OpenSpec.upto lockAloneSpec)) lockAloneUptoCard
end Rows
end Go.Proofs.YtccoklhmbikfmaaDoor
