/- ParseDeep is proved, for all numbers and kinds: what is nested as deep as may be is parsed, what is nested deeper isn't; the document's examples hold; the tables of strconv, math/bits and scan, strconv's two errors and errors.errorType hold what the program's text lays (the card ties them); no other conditions. -/
import Derived.Test.YtcinokljkieijaaGreatDoorD01
import Derived.Test.YtcinokljkieijaaGreatDoorD02
import Derived.Test.YtcinokljkieijaaGreatDoorD03
import Derived.Test.YtcinokljkieijaaGreatDoorD04
import Derived.Test.YtcinokljkieijaaGreatDoorD05
import Derived.Test.YtcinokljkieijaaGreatDoorD06
import Derived.Test.YtcinokljkieijaaGreatDoorD07
import Derived.Test.YtcinokljkieijaaGreatDoorTie
import Derived.Test.YtcinokljkieijaaGreatDoorCards
import Derived.SevenTiedAt
set_option linter.unusedVariables false
set_option linter.unusedSimpArgs false
set_option maxHeartbeats 60000000
set_option maxRecDepth 100000
namespace Go.Proofs.YtcinokljkieijaaGreatDoor
section
open Go
theorem parseDeep_holds:Rows.ParseDeepSaid:=parseDeep_over up_said14
theorem parseDeep_card:Rows.ParseDeepCardSaid:=
 Claim7.holds_tied_plain_at .later [] [.data,.data,.data,.handle,.sentinel,.sentinel,.data,.data] true (true, "738acf39d420a4474524b41c05067cd0062a44a822cd06a7936458f5d569c3fb") true
  parseDeep_holds (fun _ h=>by cases h) (by kernel_rfl) (fun _ h=>by cases h) parseDeep_row_tie rfl ⟨rfl,rfl⟩ (by kernel_rfl) rfl
  (fun f fn hf hfn=>by
    obtain rfl:f=4:=Option.some.inj ((show Tryz.prog.funcNamed "trammel/trammellaw14.ParseDeep" =some 4 by kernel_rfl).symm.trans hf) |>.symm
    obtain rfl:fn=Tryz.f4:=(Option.some.inj (Tryz.func4.symm.trans hfn)).symm
    exact⟨by kernel_rfl,fun j t ht=>by
     rw[Tryz.params4]at ht
     rcases j with _ | _ | j
     ·obtain rfl:3=t:=by simpa using ht
      exact(show Tryz.prog.wantsStandIn 3=false by kernel_rfl)
     ·obtain rfl:3=t:=by simpa using ht
      exact(show Tryz.prog.wantsStandIn 3=false by kernel_rfl)
     ·simp at ht⟩)
  (by kernel_rfl)
end
end Go.Proofs.YtcinokljkieijaaGreatDoor
