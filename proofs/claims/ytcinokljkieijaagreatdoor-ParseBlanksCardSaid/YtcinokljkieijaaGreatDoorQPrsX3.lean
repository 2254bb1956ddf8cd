/- ParseBlanks is proved, for all sources: tokens written out with one space behind each are parsed as the source is; the document's examples hold; the tables of strconv, math/bits and scan, strconv's two errors and errors.errorType hold what the program's text lays (the card ties them); no other conditions. -/
import Derived.Test.YtcinokljkieijaaGreatDoorQ19
import Derived.Test.YtcinokljkieijaaGreatDoorTie
import Derived.Test.YtcinokljkieijaaGreatDoorCards
import Derived.SevenTiedAt
set_option linter.unusedVariables false
set_option linter.unusedSimpArgs false
set_option maxHeartbeats 60000000
set_option maxRecDepth 100000
namespace Go.Proofs.YtcinokljkieijaaGreatDoor
section
open Go
theorem parseBlanks_holds:Rows.ParseBlanksSaid:=parseBlanks_over up_said14
theorem parseBlanks_card:Rows.ParseBlanksCardSaid:=
 Claim7.holds_tied_plain_at .later [] [.data,.data,.data,.handle,.sentinel,.sentinel,.data,.data] true (true, "738acf39d420a4474524b41c05067cd0062a44a822cd06a7936458f5d569c3fb") true
  parseBlanks_holds (fun _ h=>by cases h) (by kernel_rfl) (fun _ h=>by cases h) parseBlanks_row_tie rfl ⟨rfl,rfl⟩ (by kernel_rfl) rfl
  (fun f fn hf hfn=>by
    obtain rfl:f=5:=Option.some.inj ((show Tryz.prog.funcNamed "trammel/trammellaw14.ParseBlanks" =some 5 by kernel_rfl).symm.trans hf) |>.symm
    obtain rfl:fn=Tryz.f5:=(Option.some.inj (Tryz.func5.symm.trans hfn)).symm
    exact⟨by kernel_rfl,fun j t ht=>by
     rw[Tryz.params5]at ht
     rcases j with _ | j
     ·obtain rfl:9=t:=by simpa using ht
      exact(show Tryz.prog.wantsStandIn 9=false by kernel_rfl)
     ·simp at ht⟩)
  (by kernel_rfl)
end
end Go.Proofs.YtcinokljkieijaaGreatDoor
