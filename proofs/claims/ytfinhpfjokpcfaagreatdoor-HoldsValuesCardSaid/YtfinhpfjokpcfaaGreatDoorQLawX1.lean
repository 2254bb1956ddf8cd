/- HoldsValues is proved, for all expressions, conditions and variables: the value of an expression and the truth of a condition are what the document says, or what is amiss; the document's examples hold; scan.keys and show.belongs hold what the program's text lays (the card ties them); no other conditions. -/
import Derived.Test.YtfinhpfjokpcfaaGreatDoorQ36
import Derived.Test.YtfinhpfjokpcfaaGreatDoorTie
import Derived.Test.YtfinhpfjokpcfaaGreatDoorCards
import Derived.SevenTiedAt
set_option linter.unusedVariables false
set_option linter.unusedSimpArgs false
set_option maxHeartbeats 60000000
set_option maxRecDepth 100000
namespace Go.Proofs.YtfinhpfjokpcfaaGreatDoor
section
open Go
theorem holdsValues_holds:Rows.HoldsValuesSaid:=holdsValues_over up_said18
theorem holdsValues_card:Rows.HoldsValuesCardSaid:=
 Claim7.holds_tied_plain_at .later [] [.data,.data] true (true, "f49c8f2f6b768a632c492f75e419914a0f7f9d652f6219007731be916b576b37") true
  holdsValues_holds (fun _ h=>by cases h) (by kernel_rfl) (fun _ h=>by cases h) holdsValues_row_tie rfl ⟨rfl,rfl⟩ (by kernel_rfl) rfl
  (fun f fn hf hfn=>by
    obtain rfl:f=3:=Option.some.inj ((show Tryz.prog.funcNamed "trammel/trammellaw18.HoldsValues" =some 3 by kernel_rfl).symm.trans hf) |>.symm
    obtain rfl:fn=Tryz.f3:=(Option.some.inj (Tryz.func3.symm.trans hfn)).symm
    exact⟨by kernel_rfl,fun j t ht=>by
     rw[Tryz.params3]at ht
     rcases j with _ | _ | _ | j
     ·obtain rfl:24=t:=by simpa using ht
      exact(show Tryz.prog.wantsStandIn 24=false by kernel_rfl)
     ·obtain rfl:27=t:=by simpa using ht
      exact(show Tryz.prog.wantsStandIn 27=false by kernel_rfl)
     ·obtain rfl:28=t:=by simpa using ht
      exact(show Tryz.prog.wantsStandIn 28=false by kernel_rfl)
     ·simp at ht⟩)
  (by kernel_rfl)
end
end Go.Proofs.YtfinhpfjokpcfaaGreatDoor
