/- ChunkMeans is proved, for all expressions, conditions, variables' forms and values of the unknowns: where chunk.Expr tells a form, its value is the value that holds.Expr tells by the variables' values; where chunk.Cond tells a formula, it is true just if the condition is, by holds.Cond; the document's example holds; scan.keys and show.belongs hold what the program's text lays (the card ties them); no other conditions. -/
import Derived.Test.YtjbkhdbjdahbiaaGreatDoorV01
import Derived.Test.YtjbkhdbjdahbiaaGreatDoorV02
import Derived.Test.YtjbkhdbjdahbiaaGreatDoorV03
import Derived.Test.YtjbkhdbjdahbiaaGreatDoorV04
import Derived.Test.YtjbkhdbjdahbiaaGreatDoorV05
import Derived.Test.YtjbkhdbjdahbiaaGreatDoorV06
import Derived.Test.YtjbkhdbjdahbiaaGreatDoorV07
import Derived.Test.YtjbkhdbjdahbiaaGreatDoorV08
import Derived.Test.YtjbkhdbjdahbiaaGreatDoorV09
import Derived.Test.YtjbkhdbjdahbiaaGreatDoorV10
import Derived.Test.YtjbkhdbjdahbiaaGreatDoorTie
import Derived.Test.YtjbkhdbjdahbiaaGreatDoorCards
import Derived.SevenTiedAt
set_option linter.unusedVariables false
set_option linter.unusedSimpArgs false
set_option maxHeartbeats 60000000
set_option maxRecDepth 100000
namespace Go.Proofs.YtjbkhdbjdahbiaaGreatDoor
section
open Go
theorem chunkMeans_holds:Rows.ChunkMeansSaid:=chunkMeans_over up_said20
theorem chunkMeans_card:Rows.ChunkMeansCardSaid:=
 Claim7.holds_tied_plain_at .later [] [.data,.data] true (true, "c78336c45058c62b8a126c9630a43db2c14592f5f7a6f09cdb10f10cda043f16") true
  chunkMeans_holds (fun _ h=>by cases h) (by kernel_rfl) (fun _ h=>by cases h) chunkMeans_row_tie rfl ⟨rfl,rfl⟩ (by kernel_rfl) rfl
  (fun f fn hf hfn=>by
    obtain rfl:f=4:=Option.some.inj ((show Tryz.prog.funcNamed "trammel/trammellaw20.ChunkMeans" =some 4 by kernel_rfl).symm.trans hf) |>.symm
    obtain rfl:fn=Tryz.f4:=(Option.some.inj (Tryz.func4.symm.trans hfn)).symm
    exact⟨by kernel_rfl,fun j t ht=>by
     rw[Tryz.params4]at ht
     rcases j with _ | _ | _ | _ | j
     ·obtain rfl:49=t:=by simpa using ht
      exact(show Tryz.prog.wantsStandIn 49=false by kernel_rfl)
     ·obtain rfl:52=t:=by simpa using ht
      exact(show Tryz.prog.wantsStandIn 52=false by kernel_rfl)
     ·obtain rfl:53=t:=by simpa using ht
      exact(show Tryz.prog.wantsStandIn 53=false by kernel_rfl)
     ·obtain rfl:54=t:=by simpa using ht
      exact(show Tryz.prog.wantsStandIn 54=false by kernel_rfl)
     ·simp at ht⟩)
  (by kernel_rfl)
end
end Go.Proofs.YtjbkhdbjdahbiaaGreatDoor
