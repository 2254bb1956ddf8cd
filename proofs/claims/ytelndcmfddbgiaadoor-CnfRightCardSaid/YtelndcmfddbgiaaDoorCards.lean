/-
  DERIVED. GIVEN WITH THE SEED: THE CARDS: each row of YtelndcmfddbgiaaDoorRows.lean that lists a variable, with what it lists TIED to the program's text (the seventh form; the later family's looks); each row that meets fmt, with fmt's text TOLD by the authors' own Lean function (tested against real Go, not proved from fmt's source: count such statements apart). THE CARD IS WHAT COUNTS. Prove the row's statement (the work); the ties are given (YtelndcmfddbgiaaDoorTie.lean); close each card by the builder's one call (the guide's Derived/Test/ToyasCard.lean, 'card_holds'). Laid BY PROGRAM, IN A SANDBOX (cutbox-door.mjs). By AI agents, Wed Nov 11 2026. No macro, syntax, notation, axiom, sorry.
-/
import Derived.Test.YtelndcmfddbgiaaDoorRows
import GoSem.ClaimSeven
namespace Go.Proofs.YtelndcmfddbgiaaDoor
namespace Rows

/-- THE TIED CARD OF 'trammellaw09.CnfMakes'. -/
def cnfMakesCard : Claim7 := { stood := { row := cnfMakesRow, standIns := [], harness := (true, "b205bad0effecc8e7301e225876a1f04d938b89aeddfcb6de5878703ebfa7c9d"), looks := true }, kinds := [], alts := [], laidByText := true, laidKinds := [.data, .data, .data], laidTests := true, laidLooks := .later }
def CnfMakesCardSaid : Prop := Claim7.holds Tryd.pinned (.plain (OpenSpec.ofChange cnfMakesSpec)) cnfMakesCard

/-- THE TIED CARD OF 'trammellaw09.CnfLong'. -/
def cnfLongCard : Claim7 := { stood := { row := cnfLongRow, standIns := [], harness := (true, "b205bad0effecc8e7301e225876a1f04d938b89aeddfcb6de5878703ebfa7c9d"), looks := true }, kinds := [], alts := [], laidByText := true, laidKinds := [.data, .data, .data], laidTests := true, laidLooks := .later }
def CnfLongCardSaid : Prop := Claim7.holds Tryd.pinned (.plain (OpenSpec.ofChange cnfLongSpec)) cnfLongCard

/-- THE TIED CARD OF 'trammellaw09.CnfRight'. -/
def cnfRightCard : Claim7 := { stood := { row := cnfRightRow, standIns := [], harness := (true, "b205bad0effecc8e7301e225876a1f04d938b89aeddfcb6de5878703ebfa7c9d"), looks := true }, kinds := [], alts := [], laidByText := true, laidKinds := [.data, .data, .data], laidTests := true, laidLooks := .later }
def CnfRightCardSaid : Prop := Claim7.holds Tryd.pinned (.plain (OpenSpec.ofChange cnfRightSpec)) cnfRightCard

/-- THE TIED CARD OF 'trammellaw09.CnfStays'. -/
def cnfStaysCard : Claim7 := { stood := { row := cnfStaysRow, standIns := [], harness := (true, "b205bad0effecc8e7301e225876a1f04d938b89aeddfcb6de5878703ebfa7c9d"), looks := true }, kinds := [], alts := [], laidByText := true, laidKinds := [.data, .data, .data], laidTests := true, laidLooks := .later }
def CnfStaysCardSaid : Prop := Claim7.holds Tryd.pinned (.plain (OpenSpec.ofChange cnfStaysSpec)) cnfStaysCard

/-- THE SECOND FORM's CARD OF 'trammellaw09.CnfMakes'. -/
def cnfMakesUptoCard : Claim7 := { stood := { row := cnfMakesUptoRow, standIns := [], harness := (true, "b205bad0effecc8e7301e225876a1f04d938b89aeddfcb6de5878703ebfa7c9d"), looks := true }, kinds := [], alts := [], laidByText := true, laidKinds := [.data, .data, .data], laidTests := true, laidLooks := .later }
def CnfMakesUptoCardSaid : Prop := Claim7.holds Tryd.pinned (.plain (OpenSpec.upto cnfMakesSpec)) cnfMakesUptoCard

/-- THE SECOND FORM's CARD OF 'trammellaw09.CnfLong'. -/
def cnfLongUptoCard : Claim7 := { stood := { row := cnfLongUptoRow, standIns := [], harness := (true, "b205bad0effecc8e7301e225876a1f04d938b89aeddfcb6de5878703ebfa7c9d"), looks := true }, kinds := [], alts := [], laidByText := true, laidKinds := [.data, .data, .data], laidTests := true, laidLooks := .later }
def CnfLongUptoCardSaid : Prop := Claim7.holds Tryd.pinned (.plain (OpenSpec.upto cnfLongSpec)) cnfLongUptoCard

/-- THE SECOND FORM's CARD OF 'trammellaw09.CnfRight'. -/
def cnfRightUptoCard : Claim7 := { stood := { row := cnfRightUptoRow, standIns := [], harness := (true, "b205bad0effecc8e7301e225876a1f04d938b89aeddfcb6de5878703ebfa7c9d"), looks := true }, kinds := [], alts := [], laidByText := true, laidKinds := [.data, .data, .data], laidTests := true, laidLooks := .later }
def CnfRightUptoCardSaid : Prop := Claim7.holds Tryd.pinned (.plain (OpenSpec.upto cnfRightSpec)) cnfRightUptoCard

/-- THE SECOND FORM's CARD OF 'trammellaw09.CnfStays'. -/
def cnfStaysUptoCard : Claim7 := { stood := { row := cnfStaysUptoRow, standIns := [], harness := (true, "b205bad0effecc8e7301e225876a1f04d938b89aeddfcb6de5878703ebfa7c9d"), looks := true }, kinds := [], alts := [], laidByText := true, laidKinds := [.data, .data, .data], laidTests := true, laidLooks := .later }
def CnfStaysUptoCardSaid : Prop := Claim7.holds Tryd.pinned (.plain (OpenSpec.upto cnfStaysSpec)) cnfStaysUptoCard
end Rows
end Go.Proofs.YtelndcmfddbgiaaDoor
