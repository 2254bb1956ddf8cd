/- NamesCheck is proved, for all programs: names.Check refuses a program exactly when the document says that a name is amiss; the document's examples hold; scan.keys, show.belongs and errors.errorType hold what the program's text lays (the card ties them); no other conditions. -/
import Derived.Test.YtfcaclmcnlflfaaGreatDoorQ32
import Derived.Test.YtfcaclmcnlflfaaGreatDoorTie
import Derived.Test.YtfcaclmcnlflfaaGreatDoorCards
import Derived.SevenTiedAt
set_option linter.unusedVariables false
set_option linter.unusedSimpArgs false
set_option maxHeartbeats 60000000
set_option maxRecDepth 100000
namespace Go.Proofs.YtfcaclmcnlflfaaGreatDoor
section
open Go
theorem namesCheck_holds:Rows.NamesCheckSaid:=namesCheck_over up_said16
theorem namesCheck_card:Rows.NamesCheckCardSaid:=
 Claim7.holds_tied_plain_at .later [] [.handle,.data,.data] true (true, "b0982a441ac3f36e2aac40c143229f625a8c8a3b7e58cbd07c42005dcfdecc14") true
  namesCheck_holds (fun _ h=>by cases h) (by kernel_rfl) (fun _ h=>by cases h) namesCheck_row_tie rfl ⟨rfl,rfl⟩ (by kernel_rfl) rfl
  (fun f fn hf hfn=>by
    obtain rfl:f=3:=Option.some.inj ((show Tryz.prog.funcNamed "trammel/trammellaw16.NamesCheck" =some 3 by kernel_rfl).symm.trans hf) |>.symm
    obtain rfl:fn=Tryz.f3:=(Option.some.inj (Tryz.func3.symm.trans hfn)).symm
    exact⟨by kernel_rfl,fun j t ht=>by
     rw[Tryz.params3]at ht
     rcases j with _ | j
     ·obtain rfl:24=t:=by simpa using ht
      exact(show Tryz.prog.wantsStandIn 24=false by kernel_rfl)
     ·simp at ht⟩)
  (by kernel_rfl)
end
end Go.Proofs.YtfcaclmcnlflfaaGreatDoor
