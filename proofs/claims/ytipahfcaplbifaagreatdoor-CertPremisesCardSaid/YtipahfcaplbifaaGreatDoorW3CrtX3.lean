/- CertPremises is proved, for all atoms and all literals: what the opposites of a lemma's literals say, or what is amiss, is what the document says; the document's examples hold; the tables of strconv and math/bits and the variable errors.errorType hold what the program's text lays (the card ties them); no other conditions. -/
import Derived.Test.YtipahfcaplbifaaGreatDoorW301
import Derived.Test.YtipahfcaplbifaaGreatDoorQ47
import Derived.Test.YtipahfcaplbifaaGreatDoorTie
import Derived.Test.YtipahfcaplbifaaGreatDoorCards
import Derived.SevenTiedAt
set_option linter.unusedVariables false
set_option linter.unusedSimpArgs false
set_option maxHeartbeats 60000000
set_option maxRecDepth 100000
namespace Go.Proofs.YtipahfcaplbifaaGreatDoor
section
open Go
theorem certPremises_holds:Rows.CertPremisesSaid:=certPremises_over (up_said10 Prp.begin_said)
theorem certPremises_card:Rows.CertPremisesCardSaid:=
 Claim7.holds_tied_plain_at .later [] [.data,.data,.data,.handle] true (true, "bb8f73cedf2f18e96ef4c6669cc0cc9a35cb14b5d4d30636733c034d09300f46") true
  certPremises_holds (fun _ h=>by cases h) (by kernel_rfl) (fun _ h=>by cases h) certPremises_row_tie rfl ⟨rfl,rfl⟩ (by kernel_rfl) rfl
  (fun f fn hf hfn=>by
    obtain rfl:f=3:=Option.some.inj ((show Tryz.prog.funcNamed "trammel/trammellaw10.CertPremises" =some 3 by kernel_rfl).symm.trans hf) |>.symm
    obtain rfl:fn=Tryz.f3:=(Option.some.inj (Tryz.func3.symm.trans hfn)).symm
    exact⟨by kernel_rfl,fun j t ht=>by
     rw[Tryz.params3]at ht
     rcases j with _ | _ | j
     ·obtain rfl:22=t:=by simpa using ht
      exact(show Tryz.prog.wantsStandIn 22=false by kernel_rfl)
     ·obtain rfl:23=t:=by simpa using ht
      exact(show Tryz.prog.wantsStandIn 23=false by kernel_rfl)
     ·simp at ht⟩)
  (by kernel_rfl)
end
end Go.Proofs.YtipahfcaplbifaaGreatDoor
