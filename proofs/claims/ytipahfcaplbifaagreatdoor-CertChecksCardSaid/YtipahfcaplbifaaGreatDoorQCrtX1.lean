/- CertChecks is proved, for all formulas and all certificates: whether a certificate refutes a formula, or what is amiss first, is what the document says; the document's examples hold; the tables of strconv and math/bits and the variable errors.errorType hold what the program's text lays (the card ties them); no other conditions. -/
import Derived.Test.YtipahfcaplbifaaGreatDoorQ47
import Derived.Test.YtipahfcaplbifaaGreatDoorQ48
import Derived.Test.YtipahfcaplbifaaGreatDoorTie
import Derived.Test.YtipahfcaplbifaaGreatDoorCards
import Derived.SevenTiedAt
set_option linter.unusedVariables false
set_option linter.unusedSimpArgs false
set_option maxHeartbeats 60000000
set_option maxRecDepth 100000
namespace Go.Proofs.YtipahfcaplbifaaGreatDoor
section
open Go
theorem certChecks_holds:Rows.CertChecksSaid:=certChecks_over (up_said10 Prp.begin_said) Prp.begin_said
theorem certChecks_card:Rows.CertChecksCardSaid:=
 Claim7.holds_tied_plain_at .later [] [.data,.data,.data,.handle] true (true, "bb8f73cedf2f18e96ef4c6669cc0cc9a35cb14b5d4d30636733c034d09300f46") true
  certChecks_holds (fun _ h=>by cases h) (by kernel_rfl) (fun _ h=>by cases h) certChecks_row_tie rfl ⟨rfl,rfl⟩ (by kernel_rfl) rfl
  (fun f fn hf hfn=>by
    obtain rfl:f=4:=Option.some.inj ((show Tryz.prog.funcNamed "trammel/trammellaw10.CertChecks" =some 4 by kernel_rfl).symm.trans hf) |>.symm
    obtain rfl:fn=Tryz.f4:=(Option.some.inj (Tryz.func4.symm.trans hfn)).symm
    exact⟨by kernel_rfl,fun j t ht=>by
     rw[Tryz.params4]at ht
     rcases j with _ | _ | j
     ·obtain rfl:39=t:=by simpa using ht
      exact(show Tryz.prog.wantsStandIn 39=false by kernel_rfl)
     ·obtain rfl:43=t:=by simpa using ht
      exact(show Tryz.prog.wantsStandIn 43=false by kernel_rfl)
     ·simp at ht⟩)
  (by kernel_rfl)
end
end Go.Proofs.YtipahfcaplbifaaGreatDoor
