/- HoldsStays is proved, for all assertions, variables and heaps: what is handed in stays as it is, and what is answered again is the same; the document's examples hold; scan.keys and show.belongs hold what the program's text lays (the card ties them); no other conditions. -/
import Derived.Test.YtfinhpfjokpcfaaGreatDoorQ36
import Derived.Test.YtfinhpfjokpcfaaGreatDoorTie
import Derived.Test.YtfinhpfjokpcfaaGreatDoorCards
import Derived.SevenTiedAt
set_option linter.unusedVariables false
set_option linter.unusedSimpArgs false
set_option maxHeartbeats 60000000
set_option maxRecDepth 100000
namespace Go.Proofs.YtfinhpfjokpcfaaGreatDoor
section
open Go
theorem holdsStays_holds:Rows.HoldsStaysSaid:=holdsStays_over up_said18
theorem holdsStays_card:Rows.HoldsStaysCardSaid:=
 Claim7.holds_tied_plain_at .later [] [.data,.data] true (true, "f49c8f2f6b768a632c492f75e419914a0f7f9d652f6219007731be916b576b37") true
  holdsStays_holds (fun _ h=>by cases h) (by kernel_rfl) (fun _ h=>by cases h) holdsStays_row_tie rfl ⟨rfl,rfl⟩ (by kernel_rfl) rfl
  (fun f fn hf hfn=>by
    obtain rfl:f=5:=Option.some.inj ((show Tryz.prog.funcNamed "trammel/trammellaw18.HoldsStays" =some 5 by kernel_rfl).symm.trans hf) |>.symm
    obtain rfl:fn=Tryz.f5:=(Option.some.inj (Tryz.func5.symm.trans hfn)).symm
    exact⟨by kernel_rfl,fun j t ht=>by
     rw[Tryz.params5]at ht
     rcases j with _ | _ | _ | j
     ·obtain rfl:33=t:=by simpa using ht
      exact(show Tryz.prog.wantsStandIn 33=false by kernel_rfl)
     ·obtain rfl:28=t:=by simpa using ht
      exact(show Tryz.prog.wantsStandIn 28=false by kernel_rfl)
     ·obtain rfl:50=t:=by simpa using ht
      exact(show Tryz.prog.wantsStandIn 50=false by kernel_rfl)
     ·simp at ht⟩)
  (by kernel_rfl)
end
end Go.Proofs.YtfinhpfjokpcfaaGreatDoor
