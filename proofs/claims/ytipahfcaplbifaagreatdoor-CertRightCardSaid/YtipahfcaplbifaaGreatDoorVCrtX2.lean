/- CertRight is proved, for all formulas, all certificates and all values: a formula that a certificate refutes is true by no values; the document's examples hold; the tables of strconv and math/bits and the variable errors.errorType hold what the program's text lays (the card ties them); no other conditions. -/
import Derived.Test.YtipahfcaplbifaaGreatDoorV01
import Derived.Test.YtipahfcaplbifaaGreatDoorV02
import Derived.Test.YtipahfcaplbifaaGreatDoorV03
import Derived.Test.YtipahfcaplbifaaGreatDoorV04
import Derived.Test.YtipahfcaplbifaaGreatDoorV05
import Derived.Test.YtipahfcaplbifaaGreatDoorV06
import Derived.Test.YtipahfcaplbifaaGreatDoorV07
import Derived.Test.YtipahfcaplbifaaGreatDoorV08
import Derived.Test.YtipahfcaplbifaaGreatDoorV09
import Derived.Test.YtipahfcaplbifaaGreatDoorV10
import Derived.Test.YtipahfcaplbifaaGreatDoorV11
import Derived.Test.YtipahfcaplbifaaGreatDoorV12
import Derived.Test.YtipahfcaplbifaaGreatDoorQ47
import Derived.Test.YtipahfcaplbifaaGreatDoorTie
import Derived.Test.YtipahfcaplbifaaGreatDoorCards
import Derived.SevenTiedAt
set_option linter.unusedVariables false
set_option linter.unusedSimpArgs false
set_option maxHeartbeats 60000000
set_option maxRecDepth 100000
namespace Go.Proofs.YtipahfcaplbifaaGreatDoor
section
open Go
theorem certRight_holds:Rows.CertRightSaid:=certRight_over (up_said10 Prp.begin_said) Prp.begin_said
theorem certRight_card:Rows.CertRightCardSaid:=
 Claim7.holds_tied_plain_at .later [] [.data,.data,.data,.handle] true (true, "bb8f73cedf2f18e96ef4c6669cc0cc9a35cb14b5d4d30636733c034d09300f46") true
  certRight_holds (fun _ h=>by cases h) (by kernel_rfl) (fun _ h=>by cases h) certRight_row_tie rfl ⟨rfl,rfl⟩ (by kernel_rfl) rfl
  (fun f fn hf hfn=>by
    obtain rfl:f=5:=Option.some.inj ((show Tryz.prog.funcNamed "trammel/trammellaw10.CertRight" =some 5 by kernel_rfl).symm.trans hf) |>.symm
    obtain rfl:fn=Tryz.f5:=(Option.some.inj (Tryz.func5.symm.trans hfn)).symm
    exact⟨by kernel_rfl,fun j t ht=>by
     rw[Tryz.params5]at ht
     rcases j with _ | _ | _ | j
     ·obtain rfl:39=t:=by simpa using ht
      exact(show Tryz.prog.wantsStandIn 39=false by kernel_rfl)
     ·obtain rfl:43=t:=by simpa using ht
      exact(show Tryz.prog.wantsStandIn 43=false by kernel_rfl)
     ·obtain rfl:23=t:=by simpa using ht
      exact(show Tryz.prog.wantsStandIn 23=false by kernel_rfl)
     ·simp at ht⟩)
  (by kernel_rfl)
end
end Go.Proofs.YtipahfcaplbifaaGreatDoor
