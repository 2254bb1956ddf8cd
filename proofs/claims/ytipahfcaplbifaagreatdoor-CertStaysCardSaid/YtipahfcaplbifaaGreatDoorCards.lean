/-
  DERIVED. GIVEN WITH THE SEED: THE CARDS: each row of YtipahfcaplbifaaGreatDoorRows.lean that lists a variable, with what it lists TIED to the program's text (the seventh form; the later family's looks); each row that meets fmt, with fmt's text TOLD by the authors' own Lean function (tested against real Go, not proved from fmt's source: count such statements apart). THE CARD IS WHAT COUNTS. Prove the row's statement (the work); the ties are given (YtipahfcaplbifaaGreatDoorTie.lean); close each card by the builder's one call (the guide's Derived/Test/ToyasCard.lean, 'card_holds'). Laid BY PROGRAM, IN A SANDBOX (cutbox-door.mjs). By AI agents, Wed Nov 11 2026. No macro, syntax, notation, axiom, sorry.
-/
import Derived.Test.YtipahfcaplbifaaGreatDoorRows
import GoSem.ClaimSeven
namespace Go.Proofs.YtipahfcaplbifaaGreatDoor
namespace Rows

/-- THE TIED CARD OF 'trammellaw10.CertPremises'. -/
def certPremisesCard : Claim7 := { stood := { row := certPremisesRow, standIns := [], harness := (true, "bb8f73cedf2f18e96ef4c6669cc0cc9a35cb14b5d4d30636733c034d09300f46"), looks := true }, kinds := [], alts := [], laidByText := true, laidKinds := [.data, .data, .data, .handle], laidTests := true, laidLooks := .later }
def CertPremisesCardSaid : Prop := Claim7.holds Tryz.pinned (.plain (OpenSpec.ofChange certPremisesSpec)) certPremisesCard

/-- THE TIED CARD OF 'trammellaw10.CertChecks'. -/
def certChecksCard : Claim7 := { stood := { row := certChecksRow, standIns := [], harness := (true, "bb8f73cedf2f18e96ef4c6669cc0cc9a35cb14b5d4d30636733c034d09300f46"), looks := true }, kinds := [], alts := [], laidByText := true, laidKinds := [.data, .data, .data, .handle], laidTests := true, laidLooks := .later }
def CertChecksCardSaid : Prop := Claim7.holds Tryz.pinned (.plain (OpenSpec.ofChange certChecksSpec)) certChecksCard

/-- THE TIED CARD OF 'trammellaw10.CertRight'. -/
def certRightCard : Claim7 := { stood := { row := certRightRow, standIns := [], harness := (true, "bb8f73cedf2f18e96ef4c6669cc0cc9a35cb14b5d4d30636733c034d09300f46"), looks := true }, kinds := [], alts := [], laidByText := true, laidKinds := [.data, .data, .data, .handle], laidTests := true, laidLooks := .later }
def CertRightCardSaid : Prop := Claim7.holds Tryz.pinned (.plain (OpenSpec.ofChange certRightSpec)) certRightCard

/-- THE TIED CARD OF 'trammellaw10.CertApart'. -/
def certApartCard : Claim7 := { stood := { row := certApartRow, standIns := [], harness := (true, "bb8f73cedf2f18e96ef4c6669cc0cc9a35cb14b5d4d30636733c034d09300f46"), looks := true }, kinds := [], alts := [], laidByText := true, laidKinds := [.data, .data, .data, .handle], laidTests := true, laidLooks := .later }
def CertApartCardSaid : Prop := Claim7.holds Tryz.pinned (.plain (OpenSpec.ofChange certApartSpec)) certApartCard

/-- THE TIED CARD OF 'trammellaw10.CertStays'. -/
def certStaysCard : Claim7 := { stood := { row := certStaysRow, standIns := [], harness := (true, "bb8f73cedf2f18e96ef4c6669cc0cc9a35cb14b5d4d30636733c034d09300f46"), looks := true }, kinds := [], alts := [], laidByText := true, laidKinds := [.data, .data, .data, .handle], laidTests := true, laidLooks := .later }
def CertStaysCardSaid : Prop := Claim7.holds Tryz.pinned (.plain (OpenSpec.ofChange certStaysSpec)) certStaysCard

/-- THE SECOND FORM's CARD OF 'trammellaw10.CertPremises'. -/
def certPremisesUptoCard : Claim7 := { stood := { row := certPremisesUptoRow, standIns := [], harness := (true, "bb8f73cedf2f18e96ef4c6669cc0cc9a35cb14b5d4d30636733c034d09300f46"), looks := true }, kinds := [], alts := [], laidByText := true, laidKinds := [.data, .data, .data, .handle], laidTests := true, laidLooks := .later }
def CertPremisesUptoCardSaid : Prop := Claim7.holds Tryz.pinned (.plain (OpenSpec.upto certPremisesSpec)) certPremisesUptoCard

/-- THE SECOND FORM's CARD OF 'trammellaw10.CertChecks'. -/
def certChecksUptoCard : Claim7 := { stood := { row := certChecksUptoRow, standIns := [], harness := (true, "bb8f73cedf2f18e96ef4c6669cc0cc9a35cb14b5d4d30636733c034d09300f46"), looks := true }, kinds := [], alts := [], laidByText := true, laidKinds := [.data, .data, .data, .handle], laidTests := true, laidLooks := .later }
def CertChecksUptoCardSaid : Prop := Claim7.holds Tryz.pinned (.plain (OpenSpec.upto certChecksSpec)) certChecksUptoCard

/-- THE SECOND FORM's CARD OF 'trammellaw10.CertRight'. -/
def certRightUptoCard : Claim7 := { stood := { row := certRightUptoRow, standIns := [], harness := (true, "bb8f73cedf2f18e96ef4c6669cc0cc9a35cb14b5d4d30636733c034d09300f46"), looks := true }, kinds := [], alts := [], laidByText := true, laidKinds := [.data, .data, .data, .handle], laidTests := true, laidLooks := .later }
def CertRightUptoCardSaid : Prop := Claim7.holds Tryz.pinned (.plain (OpenSpec.upto certRightSpec)) certRightUptoCard

/-- THE SECOND FORM's CARD OF 'trammellaw10.CertApart'. -/
def certApartUptoCard : Claim7 := { stood := { row := certApartUptoRow, standIns := [], harness := (true, "bb8f73cedf2f18e96ef4c6669cc0cc9a35cb14b5d4d30636733c034d09300f46"), looks := true }, kinds := [], alts := [], laidByText := true, laidKinds := [.data, .data, .data, .handle], laidTests := true, laidLooks := .later }
def CertApartUptoCardSaid : Prop := Claim7.holds Tryz.pinned (.plain (OpenSpec.upto certApartSpec)) certApartUptoCard

/-- THE SECOND FORM's CARD OF 'trammellaw10.CertStays'. -/
def certStaysUptoCard : Claim7 := { stood := { row := certStaysUptoRow, standIns := [], harness := (true, "bb8f73cedf2f18e96ef4c6669cc0cc9a35cb14b5d4d30636733c034d09300f46"), looks := true }, kinds := [], alts := [], laidByText := true, laidKinds := [.data, .data, .data, .handle], laidTests := true, laidLooks := .later }
def CertStaysUptoCardSaid : Prop := Claim7.holds Tryz.pinned (.plain (OpenSpec.upto certStaysSpec)) certStaysUptoCard
end Rows
end Go.Proofs.YtipahfcaplbifaaGreatDoor
