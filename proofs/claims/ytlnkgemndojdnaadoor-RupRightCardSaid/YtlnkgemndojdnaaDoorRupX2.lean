/- RupRight is proved, for all n, all clauses, all steps and all values: where steps refute clauses, these are not all true by any values; the document's examples hold; the package variable errors.errorType holds what the program's text lays (the card ties it); no other conditions. -/
import Derived.Test.YtlnkgemndojdnaaDoorRupP2
import Derived.Test.YtlnkgemndojdnaaDoorPrpX0
import Derived.Test.YtlnkgemndojdnaaDoorTie
import Derived.Test.YtlnkgemndojdnaaDoorCards
import Derived.SevenTiedAt
set_option linter.unusedVariables false
set_option linter.unusedSimpArgs false
namespace Go.Proofs.YtlnkgemndojdnaaDoor
open Go
theorem rupRight_holds : Rows.RupRightSaid := rupRight_over (up_said7 begin_said) begin_said
theorem rupRight_card : Rows.RupRightCardSaid :=
  Claim7.holds_tied_plain_at .later [] [.handle] true (true, "53dd4d3c7a9303f09abffa4f3115afe66ffefe72e81d1ed59824f66a979bc086") true
    rupRight_holds (fun _ h => by cases h) (by kernel_rfl) (fun _ h => by cases h) rupRight_row_tie rfl ⟨rfl, rfl⟩ (by kernel_rfl) rfl
    (fun f fn hf hfn => by
      obtain rfl : f = 4 := Option.some.inj ((show Tryd.prog.funcNamed "trammel/trammellaw07.RupRight" = some 4 by kernel_rfl).symm.trans hf) |>.symm
      obtain rfl : fn = Tryd.f4 := (Option.some.inj (Tryd.func4.symm.trans hfn)).symm
      exact ⟨by kernel_rfl, fun j t ht => by
        rw [Tryd.params4] at ht
        rcases j with _ | _ | _ | _ | j
        · obtain rfl : 3 = t := by simpa using ht
          exact (show Tryd.prog.wantsStandIn 3 = false by kernel_rfl)
        · obtain rfl : 22 = t := by simpa using ht
          exact (show Tryd.prog.wantsStandIn 22 = false by kernel_rfl)
        · obtain rfl : 22 = t := by simpa using ht
          exact (show Tryd.prog.wantsStandIn 22 = false by kernel_rfl)
        · obtain rfl : 31 = t := by simpa using ht
          exact (show Tryd.prog.wantsStandIn 31 = false by kernel_rfl)
        · simp at ht⟩)
    (by kernel_rfl)
end Go.Proofs.YtlnkgemndojdnaaDoor
