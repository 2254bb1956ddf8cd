/- ChunkTakes is proved, for all chunks and all numbers: chunk.Take answers what the document asks; the document's example holds; scan.keys and show.belongs hold what the program's text lays (the card ties them); no other conditions. -/
import Derived.Test.YtjbkhdbjdahbiaaDoorQ17
import Derived.Test.YtjbkhdbjdahbiaaDoorTie
import Derived.Test.YtjbkhdbjdahbiaaDoorCards
import Derived.SevenTiedAt
set_option linter.unusedVariables false
set_option linter.unusedSimpArgs false
set_option maxHeartbeats 60000000
set_option maxRecDepth 100000
namespace Go.Proofs.YtjbkhdbjdahbiaaDoor
section
open Go
theorem chunkTakes_holds:Rows.ChunkTakesSaid:=chunkTakes_over up_said20
theorem chunkTakes_card:Rows.ChunkTakesCardSaid:=
 Claim7.holds_tied_plain_at .later [] [.data,.data] true (true, "8941567792140b5de0f64c2c8a447d17d2a6897172237afb2943e4765dec5d89") true
  chunkTakes_holds (fun _ h=>by cases h) (by kernel_rfl) (fun _ h=>by cases h) chunkTakes_row_tie rfl ⟨rfl,rfl⟩ (by kernel_rfl) rfl
  (fun f fn hf hfn=>by
    obtain rfl:f=3:=Option.some.inj ((show Tryd.prog.funcNamed "trammel/trammellaw20.ChunkTakes" =some 3 by kernel_rfl).symm.trans hf) |>.symm
    obtain rfl:fn=Tryd.f3:=(Option.some.inj (Tryd.func3.symm.trans hfn)).symm
    exact⟨by kernel_rfl,fun j t ht=>by
     rw[Tryd.params3]at ht
     rcases j with _ | _ | _ | j
     ·obtain rfl:22=t:=by simpa using ht
      exact(show Tryd.prog.wantsStandIn 22=false by kernel_rfl)
     ·obtain rfl:3=t:=by simpa using ht
      exact(show Tryd.prog.wantsStandIn 3=false by kernel_rfl)
     ·obtain rfl:3=t:=by simpa using ht
      exact(show Tryd.prog.wantsStandIn 3=false by kernel_rfl)
     ·simp at ht⟩)
  (by kernel_rfl)
end
end Go.Proofs.YtjbkhdbjdahbiaaDoor
