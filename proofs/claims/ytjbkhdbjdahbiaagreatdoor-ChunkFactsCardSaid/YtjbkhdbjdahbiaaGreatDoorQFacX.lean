/- ChunkFacts is proved, for all chunks: what chunk.Facts says of a chunk beside others is what the document says, and so is what chunk.Same says; the document's example holds; scan.keys and show.belongs hold what the program's text lays (the card ties them); no other conditions. -/
import Derived.Test.YtjbkhdbjdahbiaaGreatDoorQ23
import Derived.Test.YtjbkhdbjdahbiaaGreatDoorTie
import Derived.Test.YtjbkhdbjdahbiaaGreatDoorCards
import Derived.SevenTiedAt
set_option linter.unusedVariables false
set_option linter.unusedSimpArgs false
set_option maxHeartbeats 60000000
set_option maxRecDepth 100000
namespace Go.Proofs.YtjbkhdbjdahbiaaGreatDoor
section
open Go
theorem chunkFacts_holds:Rows.ChunkFactsSaid:=chunkFacts_over up_said20
theorem chunkFacts_card:Rows.ChunkFactsCardSaid:=
 Claim7.holds_tied_plain_at .later [] [.data,.data] true (true, "c78336c45058c62b8a126c9630a43db2c14592f5f7a6f09cdb10f10cda043f16") true
  chunkFacts_holds (fun _ h=>by cases h) (by kernel_rfl) (fun _ h=>by cases h) chunkFacts_row_tie rfl ⟨rfl,rfl⟩ (by kernel_rfl) rfl
  (fun f fn hf hfn=>by
    obtain rfl:f=3:=Option.some.inj ((show Tryz.prog.funcNamed "trammel/trammellaw20.ChunkFacts" =some 3 by kernel_rfl).symm.trans hf) |>.symm
    obtain rfl:fn=Tryz.f3:=(Option.some.inj (Tryz.func3.symm.trans hfn)).symm
    exact⟨by kernel_rfl,fun j t ht=>by
     rw[Tryz.params3]at ht
     rcases j with _ | _ | j
     ·obtain rfl:22=t:=by simpa using ht
      exact(show Tryz.prog.wantsStandIn 22=false by kernel_rfl)
     ·obtain rfl:27=t:=by simpa using ht
      exact(show Tryz.prog.wantsStandIn 27=false by kernel_rfl)
     ·simp at ht⟩)
  (by kernel_rfl)
end
end Go.Proofs.YtjbkhdbjdahbiaaGreatDoor
