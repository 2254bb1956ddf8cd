/- CutLines is proved, for all premises and all steps: all lines of a proof, or what is amiss first, are what the document says, and the document's example holds; the package variable errors.errorType holds what the program's text lays (the card ties it); no other conditions. -/
import Derived.Test.YtmjhjacbhflcpaaDoorCl12
import Derived.Test.YtmjhjacbhflcpaaDoorCl17
import Derived.Test.YtmjhjacbhflcpaaDoorTie
import Derived.Test.YtmjhjacbhflcpaaDoorCards
import Derived.SevenTiedAt
set_option linter.unusedVariables false
set_option linter.unusedSimpArgs false
namespace Go.Proofs.YtmjhjacbhflcpaaDoor
open Go
theorem cutLines_holds : Rows.CutLinesSaid := cutLines_over up_said4
theorem cutLines_card : Rows.CutLinesCardSaid :=
  Claim7.holds_tied_plain_at .later [] [.handle] true (true, "e5963c0c85b665b94266d004eb48c5c3c6b587fd9c61564359349344534cecc7") true
    cutLines_holds (fun _ h => by cases h) (by kernel_rfl) (fun _ h => by cases h) cutLines_row_tie rfl ⟨rfl, rfl⟩ (by kernel_rfl) rfl
    (fun f fn hf hfn => by
      obtain rfl : f = 3 := Option.some.inj ((show Tryd.prog.funcNamed "trammel/trammellaw04.CutLines" = some 3 by kernel_rfl).symm.trans hf) |>.symm
      obtain rfl : fn = Tryd.f3 := (Option.some.inj (Tryd.func3.symm.trans hfn)).symm
      exact ⟨by kernel_rfl, fun j t ht => by
        rw [Tryd.params3] at ht
        rcases j with _ | _ | j
        · obtain rfl : 22 = t := by simpa using ht
          exact (show Tryd.prog.wantsStandIn 22 = false by kernel_rfl)
        · obtain rfl : 23 = t := by simpa using ht
          exact (show Tryd.prog.wantsStandIn 23 = false by kernel_rfl)
        · simp at ht⟩)
    (by kernel_rfl)
end Go.Proofs.YtmjhjacbhflcpaaDoor
