/- HoldsAssns is proved, for all assertions, variables and heaps: what an assertion takes and whether it holds is what the document says; the document's examples hold; scan.keys and show.belongs hold what the program's text lays (the card ties them); no other conditions. -/
import Derived.Test.YtfinhpfjokpcfaaGreatDoorQ35
import Derived.Test.YtfinhpfjokpcfaaGreatDoorTie
import Derived.Test.YtfinhpfjokpcfaaGreatDoorCards
import Derived.SevenTiedAt
set_option linter.unusedVariables false
set_option linter.unusedSimpArgs false
set_option maxHeartbeats 60000000
set_option maxRecDepth 100000
namespace Go.Proofs.YtfinhpfjokpcfaaGreatDoor
section
open Go
theorem holdsAssns_holds:Rows.HoldsAssnsSaid:=holdsAssns_over up_said18
theorem holdsAssns_card:Rows.HoldsAssnsCardSaid:=
 Claim7.holds_tied_plain_at .later [] [.data,.data] true (true, "f49c8f2f6b768a632c492f75e419914a0f7f9d652f6219007731be916b576b37") true
  holdsAssns_holds (fun _ h=>by cases h) (by kernel_rfl) (fun _ h=>by cases h) holdsAssns_row_tie rfl ⟨rfl,rfl⟩ (by kernel_rfl) rfl
  (fun f fn hf hfn=>by
    obtain rfl:f=4:=Option.some.inj ((show Tryz.prog.funcNamed "trammel/trammellaw18.HoldsAssns" =some 4 by kernel_rfl).symm.trans hf) |>.symm
    obtain rfl:fn=Tryz.f4:=(Option.some.inj (Tryz.func4.symm.trans hfn)).symm
    exact⟨by kernel_rfl,fun j t ht=>by
     rw[Tryz.params4]at ht
     rcases j with _ | _ | _ | j
     ·obtain rfl:33=t:=by simpa using ht
      exact(show Tryz.prog.wantsStandIn 33=false by kernel_rfl)
     ·obtain rfl:28=t:=by simpa using ht
      exact(show Tryz.prog.wantsStandIn 28=false by kernel_rfl)
     ·obtain rfl:50=t:=by simpa using ht
      exact(show Tryz.prog.wantsStandIn 50=false by kernel_rfl)
     ·simp at ht⟩)
  (by kernel_rfl)
end
end Go.Proofs.YtfinhpfjokpcfaaGreatDoor
