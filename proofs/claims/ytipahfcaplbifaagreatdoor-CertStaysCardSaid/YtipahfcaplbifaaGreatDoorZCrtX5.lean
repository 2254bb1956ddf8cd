/- CertStays is proved, for all formulas and all certificates: what is handed in stays as it is, and asked again the same is answered; the document's examples hold; the tables of strconv and math/bits and the variable errors.errorType hold what the program's text lays (the card ties them); no other conditions. -/
import Derived.Test.YtipahfcaplbifaaGreatDoorZ38
import Derived.Test.YtipahfcaplbifaaGreatDoorZ39
import Derived.Test.YtipahfcaplbifaaGreatDoorTie
import Derived.Test.YtipahfcaplbifaaGreatDoorCards
import Derived.SevenTiedAt
set_option linter.unusedVariables false
set_option linter.unusedSimpArgs false
set_option maxHeartbeats 60000000
set_option maxRecDepth 100000
namespace Go.Proofs.YtipahfcaplbifaaGreatDoor
section
open Go
theorem certStays_holds:Rows.CertStaysSaid:=certStays_over (up_said10 Prp.begin_said) Prp.begin_said
theorem certStays_card:Rows.CertStaysCardSaid:=
 Claim7.holds_tied_plain_at .later [] [.data,.data,.data,.handle] true (true, "bb8f73cedf2f18e96ef4c6669cc0cc9a35cb14b5d4d30636733c034d09300f46") true
  certStays_holds (fun _ h=>by cases h) (by kernel_rfl) (fun _ h=>by cases h) certStays_row_tie rfl ⟨rfl,rfl⟩ (by kernel_rfl) rfl
  (fun f fn hf hfn=>by
    obtain rfl:f=7:=Option.some.inj ((show Tryz.prog.funcNamed "trammel/trammellaw10.CertStays" =some 7 by kernel_rfl).symm.trans hf) |>.symm
    obtain rfl:fn=Tryz.f7:=(Option.some.inj (Tryz.func7.symm.trans hfn)).symm
    exact⟨by kernel_rfl,fun j t ht=>by
     rw[Tryz.params7]at ht
     rcases j with _ | _ | j
     ·obtain rfl:39=t:=by simpa using ht
      exact(show Tryz.prog.wantsStandIn 39=false by kernel_rfl)
     ·obtain rfl:43=t:=by simpa using ht
      exact(show Tryz.prog.wantsStandIn 43=false by kernel_rfl)
     ·simp at ht⟩)
  (by kernel_rfl)
end
end Go.Proofs.YtipahfcaplbifaaGreatDoor
