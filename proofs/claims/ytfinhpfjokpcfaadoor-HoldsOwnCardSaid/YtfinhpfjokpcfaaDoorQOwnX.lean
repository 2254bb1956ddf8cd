/- HoldsOwn is proved, for all assertions, variables and heaps: whether an assertion holds hangs on the cells alone that it takes; the document's examples hold; scan.keys and show.belongs hold what the program's text lays (the card ties them); no other conditions. -/
import Derived.Test.YtfinhpfjokpcfaaDoorQ19
import Derived.Test.YtfinhpfjokpcfaaDoorTie
import Derived.Test.YtfinhpfjokpcfaaDoorCards
import Derived.SevenTiedAt
set_option linter.unusedVariables false
set_option linter.unusedSimpArgs false
set_option maxHeartbeats 60000000
set_option maxRecDepth 100000
namespace Go.Proofs.YtfinhpfjokpcfaaDoor
section
open Go
theorem holdsOwn_holds:Rows.HoldsOwnSaid:=holdsOwn_over up_said18
theorem holdsOwn_card:Rows.HoldsOwnCardSaid:=
 Claim7.holds_tied_plain_at .later [] [.data,.data] true (true, "1ea392dda5407c34372f294999e350dff876d4870c3ec884e637d329fd09288d") false
  holdsOwn_holds (fun _ h=>by cases h) (by kernel_rfl) (fun _ h=>by cases h) holdsOwn_row_tie rfl ⟨rfl,rfl⟩ (by kernel_rfl) rfl
  (fun f fn hf hfn=>by
    obtain rfl:f=3:=Option.some.inj ((show Tryd.prog.funcNamed "trammel/trammellaw18.HoldsOwn" =some 3 by kernel_rfl).symm.trans hf) |>.symm
    obtain rfl:fn=Tryd.f3:=(Option.some.inj (Tryd.func3.symm.trans hfn)).symm
    exact⟨by kernel_rfl,fun j t ht=>by
     rw[Tryd.params3]at ht
     rcases j with _ | _ | _ | j
     ·obtain rfl:30=t:=by simpa using ht
      exact(show Tryd.prog.wantsStandIn 30=false by kernel_rfl)
     ·obtain rfl:31=t:=by simpa using ht
      exact(show Tryd.prog.wantsStandIn 31=false by kernel_rfl)
     ·obtain rfl:32=t:=by simpa using ht
      exact(show Tryd.prog.wantsStandIn 32=false by kernel_rfl)
     ·simp at ht⟩)
  (by kernel_rfl)
end
end Go.Proofs.YtfinhpfjokpcfaaDoor
