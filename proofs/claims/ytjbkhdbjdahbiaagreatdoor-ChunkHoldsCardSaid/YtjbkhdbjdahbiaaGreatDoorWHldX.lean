/- ChunkHolds is proved, for all chunks and all values of the unknowns: where chunks are laid down by values that are a heap's, of which nobody has more than Whole, each fact that chunk.Facts tells of one beside those ahead of it is true by the values (or has no value); the document's example holds; scan.keys and show.belongs hold what the program's text lays (the card ties them); no other conditions. -/
import Derived.Test.YtjbkhdbjdahbiaaGreatDoorW01
import Derived.Test.YtjbkhdbjdahbiaaGreatDoorW02
import Derived.Test.YtjbkhdbjdahbiaaGreatDoorW03
import Derived.Test.YtjbkhdbjdahbiaaGreatDoorW04
import Derived.Test.YtjbkhdbjdahbiaaGreatDoorW05
import Derived.Test.YtjbkhdbjdahbiaaGreatDoorTie
import Derived.Test.YtjbkhdbjdahbiaaGreatDoorCards
import Derived.SevenTiedAt
set_option linter.unusedVariables false
set_option linter.unusedSimpArgs false
set_option maxHeartbeats 60000000
set_option maxRecDepth 100000
namespace Go.Proofs.YtjbkhdbjdahbiaaGreatDoor
section
open Go
theorem chunkHolds_holds:Rows.ChunkHoldsSaid:=chunkHolds_over up_said20
theorem chunkHolds_card:Rows.ChunkHoldsCardSaid:=
 Claim7.holds_tied_plain_at .later [] [.data,.data] true (true, "c78336c45058c62b8a126c9630a43db2c14592f5f7a6f09cdb10f10cda043f16") true
  chunkHolds_holds (fun _ h=>by cases h) (by kernel_rfl) (fun _ h=>by cases h) chunkHolds_row_tie rfl ⟨rfl,rfl⟩ (by kernel_rfl) rfl
  (fun f fn hf hfn=>by
    obtain rfl:f=5:=Option.some.inj ((show Tryz.prog.funcNamed "trammel/trammellaw20.ChunkHolds" =some 5 by kernel_rfl).symm.trans hf) |>.symm
    obtain rfl:fn=Tryz.f5:=(Option.some.inj (Tryz.func5.symm.trans hfn)).symm
    exact⟨by kernel_rfl,fun j t ht=>by
     rw[Tryz.params5]at ht
     rcases j with _ | _ | j
     ·obtain rfl:22=t:=by simpa using ht
      exact(show Tryz.prog.wantsStandIn 22=false by kernel_rfl)
     ·obtain rfl:54=t:=by simpa using ht
      exact(show Tryz.prog.wantsStandIn 54=false by kernel_rfl)
     ·simp at ht⟩)
  (by kernel_rfl)
end
end Go.Proofs.YtjbkhdbjdahbiaaGreatDoor
