/-
  DERIVED. GIVEN WITH THE SEED: THE CARDS: each row of YtlnkgemndojdnaaDoorRows.lean that lists a variable, with what it lists TIED to the program's text (the seventh form; the later family's looks); each row that meets fmt, with fmt's text TOLD by the authors' own Lean function (tested against real Go, not proved from fmt's source: count such statements apart). THE CARD IS WHAT COUNTS. Prove the row's statement (the work); the ties are given (YtlnkgemndojdnaaDoorTie.lean); close each card by the builder's one call (the guide's Derived/Test/ToyasCard.lean, 'card_holds'). Laid BY PROGRAM, IN A SANDBOX (cutbox-door.mjs). By AI agents, Wed Nov 11 2026. No macro, syntax, notation, axiom, sorry.
-/
import Derived.Test.YtlnkgemndojdnaaDoorRows
import GoSem.ClaimSeven
namespace Go.Proofs.YtlnkgemndojdnaaDoor
namespace Rows

/-- THE TIED CARD OF 'trammellaw07.RupChecks'. -/
def rupChecksCard : Claim7 := { stood := { row := rupChecksRow, standIns := [], harness := (true, "53dd4d3c7a9303f09abffa4f3115afe66ffefe72e81d1ed59824f66a979bc086"), looks := true }, kinds := [], alts := [], laidByText := true, laidKinds := [.handle], laidTests := true, laidLooks := .later }
def RupChecksCardSaid : Prop := Claim7.holds Tryd.pinned (.plain (OpenSpec.ofChange rupChecksSpec)) rupChecksCard

/-- THE TIED CARD OF 'trammellaw07.RupRight'. -/
def rupRightCard : Claim7 := { stood := { row := rupRightRow, standIns := [], harness := (true, "53dd4d3c7a9303f09abffa4f3115afe66ffefe72e81d1ed59824f66a979bc086"), looks := true }, kinds := [], alts := [], laidByText := true, laidKinds := [.handle], laidTests := true, laidLooks := .later }
def RupRightCardSaid : Prop := Claim7.holds Tryd.pinned (.plain (OpenSpec.ofChange rupRightSpec)) rupRightCard

/-- THE TIED CARD OF 'trammellaw07.RupNone'. -/
def rupNoneCard : Claim7 := { stood := { row := rupNoneRow, standIns := [], harness := (true, "53dd4d3c7a9303f09abffa4f3115afe66ffefe72e81d1ed59824f66a979bc086"), looks := true }, kinds := [], alts := [], laidByText := true, laidKinds := [.handle], laidTests := true, laidLooks := .later }
def RupNoneCardSaid : Prop := Claim7.holds Tryd.pinned (.plain (OpenSpec.ofChange rupNoneSpec)) rupNoneCard

/-- THE TIED CARD OF 'trammellaw07.RupStays'. -/
def rupStaysCard : Claim7 := { stood := { row := rupStaysRow, standIns := [], harness := (true, "53dd4d3c7a9303f09abffa4f3115afe66ffefe72e81d1ed59824f66a979bc086"), looks := true }, kinds := [], alts := [], laidByText := true, laidKinds := [.handle], laidTests := true, laidLooks := .later }
def RupStaysCardSaid : Prop := Claim7.holds Tryd.pinned (.plain (OpenSpec.ofChange rupStaysSpec)) rupStaysCard

/-- THE SECOND FORM's CARD OF 'trammellaw07.RupChecks'. -/
def rupChecksUptoCard : Claim7 := { stood := { row := rupChecksUptoRow, standIns := [], harness := (true, "53dd4d3c7a9303f09abffa4f3115afe66ffefe72e81d1ed59824f66a979bc086"), looks := true }, kinds := [], alts := [], laidByText := true, laidKinds := [.handle], laidTests := true, laidLooks := .later }
def RupChecksUptoCardSaid : Prop := Claim7.holds Tryd.pinned (.plain (OpenSpec.upto rupChecksSpec)) rupChecksUptoCard

/-- THE SECOND FORM's CARD OF 'trammellaw07.RupRight'. -/
def rupRightUptoCard : Claim7 := { stood := { row := rupRightUptoRow, standIns := [], harness := (true, "53dd4d3c7a9303f09abffa4f3115afe66ffefe72e81d1ed59824f66a979bc086"), looks := true }, kinds := [], alts := [], laidByText := true, laidKinds := [.handle], laidTests := true, laidLooks := .later }
def RupRightUptoCardSaid : Prop := Claim7.holds Tryd.pinned (.plain (OpenSpec.upto rupRightSpec)) rupRightUptoCard

/-- THE SECOND FORM's CARD OF 'trammellaw07.RupNone'. -/
def rupNoneUptoCard : Claim7 := { stood := { row := rupNoneUptoRow, standIns := [], harness := (true, "53dd4d3c7a9303f09abffa4f3115afe66ffefe72e81d1ed59824f66a979bc086"), looks := true }, kinds := [], alts := [], laidByText := true, laidKinds := [.handle], laidTests := true, laidLooks := .later }
def RupNoneUptoCardSaid : Prop := Claim7.holds Tryd.pinned (.plain (OpenSpec.upto rupNoneSpec)) rupNoneUptoCard

/-- THE SECOND FORM's CARD OF 'trammellaw07.RupStays'. -/
def rupStaysUptoCard : Claim7 := { stood := { row := rupStaysUptoRow, standIns := [], harness := (true, "53dd4d3c7a9303f09abffa4f3115afe66ffefe72e81d1ed59824f66a979bc086"), looks := true }, kinds := [], alts := [], laidByText := true, laidKinds := [.handle], laidTests := true, laidLooks := .later }
def RupStaysUptoCardSaid : Prop := Claim7.holds Tryd.pinned (.plain (OpenSpec.upto rupStaysSpec)) rupStaysUptoCard
end Rows
end Go.Proofs.YtlnkgemndojdnaaDoor
