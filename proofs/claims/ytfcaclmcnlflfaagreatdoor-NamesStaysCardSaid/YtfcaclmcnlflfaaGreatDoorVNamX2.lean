/- NamesStays is proved, for all programs: a program that is handed to names.Check stays as it is, and asked again names.Check answers the same; the document's examples hold; scan.keys, show.belongs and errors.errorType hold what the program's text lays (the card ties them); no other conditions. -/
import Derived.Test.YtfcaclmcnlflfaaGreatDoorV01
import Derived.Test.YtfcaclmcnlflfaaGreatDoorV02
import Derived.Test.YtfcaclmcnlflfaaGreatDoorV03
import Derived.Test.YtfcaclmcnlflfaaGreatDoorV04
import Derived.Test.YtfcaclmcnlflfaaGreatDoorV05
import Derived.Test.YtfcaclmcnlflfaaGreatDoorTie
import Derived.Test.YtfcaclmcnlflfaaGreatDoorCards
import Derived.SevenTiedAt
set_option linter.unusedVariables false
set_option linter.unusedSimpArgs false
set_option maxHeartbeats 60000000
set_option maxRecDepth 100000
namespace Go.Proofs.YtfcaclmcnlflfaaGreatDoor
section
open Go
theorem namesStays_holds:Rows.NamesStaysSaid:=namesStays_over up_said16
theorem namesStays_card:Rows.NamesStaysCardSaid:=
 Claim7.holds_tied_plain_at .later [] [.handle,.data,.data] true (true, "b0982a441ac3f36e2aac40c143229f625a8c8a3b7e58cbd07c42005dcfdecc14") true
  namesStays_holds (fun _ h=>by cases h) (by kernel_rfl) (fun _ h=>by cases h) namesStays_row_tie rfl ⟨rfl,rfl⟩ (by kernel_rfl) rfl
  (fun f fn hf hfn=>by
    obtain rfl:f=4:=Option.some.inj ((show Tryz.prog.funcNamed "trammel/trammellaw16.NamesStays" =some 4 by kernel_rfl).symm.trans hf) |>.symm
    obtain rfl:fn=Tryz.f4:=(Option.some.inj (Tryz.func4.symm.trans hfn)).symm
    exact⟨by kernel_rfl,fun j t ht=>by
     rw[Tryz.params4]at ht
     rcases j with _ | j
     ·obtain rfl:24=t:=by simpa using ht
      exact(show Tryz.prog.wantsStandIn 24=false by kernel_rfl)
     ·simp at ht⟩)
  (by kernel_rfl)
end
end Go.Proofs.YtfcaclmcnlflfaaGreatDoor
