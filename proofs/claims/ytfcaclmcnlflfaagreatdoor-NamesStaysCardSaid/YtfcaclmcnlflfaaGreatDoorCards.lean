/-
  DERIVED. GIVEN WITH THE SEED: THE CARDS: each row of YtfcaclmcnlflfaaGreatDoorRows.lean that lists a variable, with what it lists TIED to the program's text (the seventh form; the later family's looks); each row that meets fmt, with fmt's text TOLD by the authors' own Lean function (tested against real Go, not proved from fmt's source: count such statements apart). THE CARD IS WHAT COUNTS. Prove the row's statement (the work); the ties are given (YtfcaclmcnlflfaaGreatDoorTie.lean); close each card by the builder's one call (the guide's Derived/Test/ToyasCard.lean, 'card_holds'). Laid BY PROGRAM, IN A SANDBOX (cutbox-door.mjs). By AI agents, Wed Nov 11 2026. No macro, syntax, notation, axiom, sorry.
-/
import Derived.Test.YtfcaclmcnlflfaaGreatDoorRows
import GoSem.ClaimSeven
namespace Go.Proofs.YtfcaclmcnlflfaaGreatDoor
namespace Rows

/-- THE TIED CARD OF 'trammellaw16.NamesCheck'. -/
def namesCheckCard : Claim7 := { stood := { row := namesCheckRow, standIns := [], harness := (true, "b0982a441ac3f36e2aac40c143229f625a8c8a3b7e58cbd07c42005dcfdecc14"), looks := true }, kinds := [], alts := [], laidByText := true, laidKinds := [.handle, .data, .data], laidTests := true, laidLooks := .later }
def NamesCheckCardSaid : Prop := Claim7.holds Tryz.pinned (.plain (OpenSpec.ofChange namesCheckSpec)) namesCheckCard

/-- THE TIED CARD OF 'trammellaw16.NamesStays'. -/
def namesStaysCard : Claim7 := { stood := { row := namesStaysRow, standIns := [], harness := (true, "b0982a441ac3f36e2aac40c143229f625a8c8a3b7e58cbd07c42005dcfdecc14"), looks := true }, kinds := [], alts := [], laidByText := true, laidKinds := [.handle, .data, .data], laidTests := true, laidLooks := .later }
def NamesStaysCardSaid : Prop := Claim7.holds Tryz.pinned (.plain (OpenSpec.ofChange namesStaysSpec)) namesStaysCard

/-- THE SECOND FORM's CARD OF 'trammellaw16.NamesCheck'. -/
def namesCheckUptoCard : Claim7 := { stood := { row := namesCheckUptoRow, standIns := [], harness := (true, "b0982a441ac3f36e2aac40c143229f625a8c8a3b7e58cbd07c42005dcfdecc14"), looks := true }, kinds := [], alts := [], laidByText := true, laidKinds := [.handle, .data, .data], laidTests := true, laidLooks := .later }
def NamesCheckUptoCardSaid : Prop := Claim7.holds Tryz.pinned (.plain (OpenSpec.upto namesCheckSpec)) namesCheckUptoCard

/-- THE SECOND FORM's CARD OF 'trammellaw16.NamesStays'. -/
def namesStaysUptoCard : Claim7 := { stood := { row := namesStaysUptoRow, standIns := [], harness := (true, "b0982a441ac3f36e2aac40c143229f625a8c8a3b7e58cbd07c42005dcfdecc14"), looks := true }, kinds := [], alts := [], laidByText := true, laidKinds := [.handle, .data, .data], laidTests := true, laidLooks := .later }
def NamesStaysUptoCardSaid : Prop := Claim7.holds Tryz.pinned (.plain (OpenSpec.upto namesStaysSpec)) namesStaysUptoCard
end Rows
end Go.Proofs.YtfcaclmcnlflfaaGreatDoor
