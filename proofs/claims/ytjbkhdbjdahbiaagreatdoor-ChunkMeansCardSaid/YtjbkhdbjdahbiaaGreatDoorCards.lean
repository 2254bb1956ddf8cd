/-
  DERIVED. GIVEN WITH THE SEED: THE CARDS: each row of YtjbkhdbjdahbiaaGreatDoorRows.lean that lists a variable, with what it lists TIED to the program's text (the seventh form; the later family's looks); each row that meets fmt, with fmt's text TOLD by the authors' own Lean function (tested against real Go, not proved from fmt's source: count such statements apart). THE CARD IS WHAT COUNTS. Prove the row's statement (the work); the ties are given (YtjbkhdbjdahbiaaGreatDoorTie.lean); close each card by the builder's one call (the guide's Derived/Test/ToyasCard.lean, 'card_holds'). Laid BY PROGRAM, IN A SANDBOX (cutbox-door.mjs). By AI agents, Wed Nov 11 2026. No macro, syntax, notation, axiom, sorry.
-/
import Derived.Test.YtjbkhdbjdahbiaaGreatDoorRows
import GoSem.ClaimSeven
namespace Go.Proofs.YtjbkhdbjdahbiaaGreatDoor
namespace Rows

/-- THE TIED CARD OF 'trammellaw20.ChunkFacts'. -/
def chunkFactsCard : Claim7 := { stood := { row := chunkFactsRow, standIns := [], harness := (true, "c78336c45058c62b8a126c9630a43db2c14592f5f7a6f09cdb10f10cda043f16"), looks := true }, kinds := [], alts := [], laidByText := true, laidKinds := [.data, .data], laidTests := true, laidLooks := .later }
def ChunkFactsCardSaid : Prop := Claim7.holds Tryz.pinned (.plain (OpenSpec.ofChange chunkFactsSpec)) chunkFactsCard

/-- THE TIED CARD OF 'trammellaw20.ChunkMeans'. -/
def chunkMeansCard : Claim7 := { stood := { row := chunkMeansRow, standIns := [], harness := (true, "c78336c45058c62b8a126c9630a43db2c14592f5f7a6f09cdb10f10cda043f16"), looks := true }, kinds := [], alts := [], laidByText := true, laidKinds := [.data, .data], laidTests := true, laidLooks := .later }
def ChunkMeansCardSaid : Prop := Claim7.holds Tryz.pinned (.plain (OpenSpec.ofChange chunkMeansSpec)) chunkMeansCard

/-- THE TIED CARD OF 'trammellaw20.ChunkHolds'. -/
def chunkHoldsCard : Claim7 := { stood := { row := chunkHoldsRow, standIns := [], harness := (true, "c78336c45058c62b8a126c9630a43db2c14592f5f7a6f09cdb10f10cda043f16"), looks := true }, kinds := [], alts := [], laidByText := true, laidKinds := [.data, .data], laidTests := true, laidLooks := .later }
def ChunkHoldsCardSaid : Prop := Claim7.holds Tryz.pinned (.plain (OpenSpec.ofChange chunkHoldsSpec)) chunkHoldsCard

/-- THE TIED CARD OF 'trammellaw20.ChunkStays'. -/
def chunkStaysCard : Claim7 := { stood := { row := chunkStaysRow, standIns := [], harness := (true, "c78336c45058c62b8a126c9630a43db2c14592f5f7a6f09cdb10f10cda043f16"), looks := true }, kinds := [], alts := [], laidByText := true, laidKinds := [.data, .data], laidTests := true, laidLooks := .later }
def ChunkStaysCardSaid : Prop := Claim7.holds Tryz.pinned (.plain (OpenSpec.ofChange chunkStaysSpec)) chunkStaysCard

/-- THE SECOND FORM's CARD OF 'trammellaw20.ChunkFacts'. -/
def chunkFactsUptoCard : Claim7 := { stood := { row := chunkFactsUptoRow, standIns := [], harness := (true, "c78336c45058c62b8a126c9630a43db2c14592f5f7a6f09cdb10f10cda043f16"), looks := true }, kinds := [], alts := [], laidByText := true, laidKinds := [.data, .data], laidTests := true, laidLooks := .later }
def ChunkFactsUptoCardSaid : Prop := Claim7.holds Tryz.pinned (.plain (OpenSpec.upto chunkFactsSpec)) chunkFactsUptoCard

/-- THE SECOND FORM's CARD OF 'trammellaw20.ChunkMeans'. -/
def chunkMeansUptoCard : Claim7 := { stood := { row := chunkMeansUptoRow, standIns := [], harness := (true, "c78336c45058c62b8a126c9630a43db2c14592f5f7a6f09cdb10f10cda043f16"), looks := true }, kinds := [], alts := [], laidByText := true, laidKinds := [.data, .data], laidTests := true, laidLooks := .later }
def ChunkMeansUptoCardSaid : Prop := Claim7.holds Tryz.pinned (.plain (OpenSpec.upto chunkMeansSpec)) chunkMeansUptoCard

/-- THE SECOND FORM's CARD OF 'trammellaw20.ChunkHolds'. -/
def chunkHoldsUptoCard : Claim7 := { stood := { row := chunkHoldsUptoRow, standIns := [], harness := (true, "c78336c45058c62b8a126c9630a43db2c14592f5f7a6f09cdb10f10cda043f16"), looks := true }, kinds := [], alts := [], laidByText := true, laidKinds := [.data, .data], laidTests := true, laidLooks := .later }
def ChunkHoldsUptoCardSaid : Prop := Claim7.holds Tryz.pinned (.plain (OpenSpec.upto chunkHoldsSpec)) chunkHoldsUptoCard

/-- THE SECOND FORM's CARD OF 'trammellaw20.ChunkStays'. -/
def chunkStaysUptoCard : Claim7 := { stood := { row := chunkStaysUptoRow, standIns := [], harness := (true, "c78336c45058c62b8a126c9630a43db2c14592f5f7a6f09cdb10f10cda043f16"), looks := true }, kinds := [], alts := [], laidByText := true, laidKinds := [.data, .data], laidTests := true, laidLooks := .later }
def ChunkStaysUptoCardSaid : Prop := Claim7.holds Tryz.pinned (.plain (OpenSpec.upto chunkStaysSpec)) chunkStaysUptoCard
end Rows
end Go.Proofs.YtjbkhdbjdahbiaaGreatDoor
