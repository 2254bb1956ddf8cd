/- ParsePrograms is proved, for all sources: the program, or what is amiss first, is what the document says; the document's examples hold; the tables of strconv, math/bits and scan, strconv's two errors and errors.errorType hold what the program's text lays (the card ties them); no other conditions. -/
import Derived.Test.YtcinokljkieijaaGreatDoorW01
import Derived.Test.YtcinokljkieijaaGreatDoorW02
import Derived.Test.YtcinokljkieijaaGreatDoorW03
import Derived.Test.YtcinokljkieijaaGreatDoorW04
import Derived.Test.YtcinokljkieijaaGreatDoorW05
import Derived.Test.YtcinokljkieijaaGreatDoorW06
import Derived.Test.YtcinokljkieijaaGreatDoorW07
import Derived.Test.YtcinokljkieijaaGreatDoorW08
import Derived.Test.YtcinokljkieijaaGreatDoorW09
import Derived.Test.YtcinokljkieijaaGreatDoorW10
import Derived.Test.YtcinokljkieijaaGreatDoorW11
import Derived.Test.YtcinokljkieijaaGreatDoorW12
import Derived.Test.YtcinokljkieijaaGreatDoorW13
import Derived.Test.YtcinokljkieijaaGreatDoorW14
import Derived.Test.YtcinokljkieijaaGreatDoorTie
import Derived.Test.YtcinokljkieijaaGreatDoorCards
import Derived.SevenTiedAt
set_option linter.unusedVariables false
set_option linter.unusedSimpArgs false
set_option maxHeartbeats 60000000
set_option maxRecDepth 100000
namespace Go.Proofs.YtcinokljkieijaaGreatDoor
section
open Go
theorem parsePrograms_holds:Rows.ParseProgramsSaid:=parsePrograms_over up_said14
theorem parsePrograms_card:Rows.ParseProgramsCardSaid:=
 Claim7.holds_tied_plain_at .later [] [.data,.data,.data,.handle,.sentinel,.sentinel,.data,.data] true (true, "738acf39d420a4474524b41c05067cd0062a44a822cd06a7936458f5d569c3fb") true
  parsePrograms_holds (fun _ h=>by cases h) (by kernel_rfl) (fun _ h=>by cases h) parsePrograms_row_tie rfl ⟨rfl,rfl⟩ (by kernel_rfl) rfl
  (fun f fn hf hfn=>by
    obtain rfl:f=3:=Option.some.inj ((show Tryz.prog.funcNamed "trammel/trammellaw14.ParsePrograms" =some 3 by kernel_rfl).symm.trans hf) |>.symm
    obtain rfl:fn=Tryz.f3:=(Option.some.inj (Tryz.func3.symm.trans hfn)).symm
    exact⟨by kernel_rfl,fun j t ht=>by
     rw[Tryz.params3]at ht
     rcases j with _ | j
     ·obtain rfl:9=t:=by simpa using ht
      exact(show Tryz.prog.wantsStandIn 9=false by kernel_rfl)
     ·simp at ht⟩)
  (by kernel_rfl)
end
end Go.Proofs.YtcinokljkieijaaGreatDoor
