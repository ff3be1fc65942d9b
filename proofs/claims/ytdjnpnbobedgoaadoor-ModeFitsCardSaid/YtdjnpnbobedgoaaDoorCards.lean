/-
  DERIVED. GIVEN WITH THE SEED: THE CARDS: each row of YtdjnpnbobedgoaaDoorRows.lean that lists a variable, with what it lists TIED to the program's text (the seventh form; the later family's looks); each row that meets fmt, with fmt's text TOLD by the authors' own Lean function (tested against real Go, not proved from fmt's source: count such statements apart). THE CARD IS WHAT COUNTS. Prove the row's statement (the work); the ties are given (YtdjnpnbobedgoaaDoorTie.lean); close each card by the builder's one call (the guide's Derived/Test/ToyasCard.lean, 'card_holds'). Laid BY PROGRAM, IN A SANDBOX (cutbox-door.mjs). By AI agents, Wed Nov 11 2026. No macro, syntax, notation, axiom, sorry.
-/
import Derived.Test.YtdjnpnbobedgoaaDoorRows
import GoSem.ClaimSeven
namespace Go.Proofs.YtdjnpnbobedgoaaDoor
namespace Rows

/-- THE TIED CARD OF 'banksmanlaw09.ModeTells'. -/
def modeTellsCard : Claim7 := { stood := { row := modeTellsRow, standIns := [], harness := (true, "df99076cb68aa7d5e4c191af8c29ab08137b7c7b4d3a049b6794b45b246d3fe2"), looks := false }, kinds := [], alts := [], laidByText := true, laidKinds := [.data], laidTests := true, laidLooks := .later }
def ModeTellsCardSaid : Prop := Claim7.holds Tryd.pinned (.plain (OpenSpec.ofChange modeTellsSpec)) modeTellsCard

/-- THE TIED CARD OF 'banksmanlaw09.ModeJoins'. -/
def modeJoinsCard : Claim7 := { stood := { row := modeJoinsRow, standIns := [], harness := (true, "df99076cb68aa7d5e4c191af8c29ab08137b7c7b4d3a049b6794b45b246d3fe2"), looks := false }, kinds := [], alts := [], laidByText := true, laidKinds := [.data], laidTests := true, laidLooks := .later }
def ModeJoinsCardSaid : Prop := Claim7.holds Tryd.pinned (.plain (OpenSpec.ofChange modeJoinsSpec)) modeJoinsCard

/-- THE TIED CARD OF 'banksmanlaw09.ModeFits'. -/
def modeFitsCard : Claim7 := { stood := { row := modeFitsRow, standIns := [], harness := (true, "df99076cb68aa7d5e4c191af8c29ab08137b7c7b4d3a049b6794b45b246d3fe2"), looks := false }, kinds := [], alts := [], laidByText := true, laidKinds := [.data], laidTests := true, laidLooks := .later }
def ModeFitsCardSaid : Prop := Claim7.holds Tryd.pinned (.plain (OpenSpec.ofChange modeFitsSpec)) modeFitsCard

/-- THE TIED CARD OF 'banksmanlaw09.ModeUp'. -/
def modeUpCard : Claim7 := { stood := { row := modeUpRow, standIns := [], harness := (true, "df99076cb68aa7d5e4c191af8c29ab08137b7c7b4d3a049b6794b45b246d3fe2"), looks := false }, kinds := [], alts := [], laidByText := true, laidKinds := [.data], laidTests := true, laidLooks := .later }
def ModeUpCardSaid : Prop := Claim7.holds Tryd.pinned (.plain (OpenSpec.ofChange modeUpSpec)) modeUpCard

/-- THE SECOND FORM's CARD OF 'banksmanlaw09.ModeTells'. -/
def modeTellsUptoCard : Claim7 := { stood := { row := modeTellsUptoRow, standIns := [], harness := (true, "df99076cb68aa7d5e4c191af8c29ab08137b7c7b4d3a049b6794b45b246d3fe2"), looks := false }, kinds := [], alts := [], laidByText := true, laidKinds := [.data], laidTests := true, laidLooks := .later }
def ModeTellsUptoCardSaid : Prop := Claim7.holds Tryd.pinned (.plain (OpenSpec.upto modeTellsSpec)) modeTellsUptoCard

/-- THE SECOND FORM's CARD OF 'banksmanlaw09.ModeJoins'. -/
def modeJoinsUptoCard : Claim7 := { stood := { row := modeJoinsUptoRow, standIns := [], harness := (true, "df99076cb68aa7d5e4c191af8c29ab08137b7c7b4d3a049b6794b45b246d3fe2"), looks := false }, kinds := [], alts := [], laidByText := true, laidKinds := [.data], laidTests := true, laidLooks := .later }
def ModeJoinsUptoCardSaid : Prop := Claim7.holds Tryd.pinned (.plain (OpenSpec.upto modeJoinsSpec)) modeJoinsUptoCard

/-- THE SECOND FORM's CARD OF 'banksmanlaw09.ModeFits'. -/
def modeFitsUptoCard : Claim7 := { stood := { row := modeFitsUptoRow, standIns := [], harness := (true, "df99076cb68aa7d5e4c191af8c29ab08137b7c7b4d3a049b6794b45b246d3fe2"), looks := false }, kinds := [], alts := [], laidByText := true, laidKinds := [.data], laidTests := true, laidLooks := .later }
def ModeFitsUptoCardSaid : Prop := Claim7.holds Tryd.pinned (.plain (OpenSpec.upto modeFitsSpec)) modeFitsUptoCard

/-- THE SECOND FORM's CARD OF 'banksmanlaw09.ModeUp'. -/
def modeUpUptoCard : Claim7 := { stood := { row := modeUpUptoRow, standIns := [], harness := (true, "df99076cb68aa7d5e4c191af8c29ab08137b7c7b4d3a049b6794b45b246d3fe2"), looks := false }, kinds := [], alts := [], laidByText := true, laidKinds := [.data], laidTests := true, laidLooks := .later }
def ModeUpUptoCardSaid : Prop := Claim7.holds Tryd.pinned (.plain (OpenSpec.upto modeUpSpec)) modeUpUptoCard
end Rows
end Go.Proofs.YtdjnpnbobedgoaaDoor
