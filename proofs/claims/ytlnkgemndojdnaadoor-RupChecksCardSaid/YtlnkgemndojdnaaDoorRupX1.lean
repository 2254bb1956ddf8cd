/- RupChecks is proved, for all n, all clauses and all steps: whether steps refute clauses, or what is amiss first, is what the document says; the document's examples hold; the package variable errors.errorType holds what the program's text lays (the card ties it); no other conditions. -/
import Derived.Test.YtlnkgemndojdnaaDoorRupP1
import Derived.Test.YtlnkgemndojdnaaDoorPrpX0
import Derived.Test.YtlnkgemndojdnaaDoorTie
import Derived.Test.YtlnkgemndojdnaaDoorCards
import Derived.SevenTiedAt
set_option linter.unusedVariables false
set_option linter.unusedSimpArgs false
namespace Go.Proofs.YtlnkgemndojdnaaDoor
open Go
theorem rupChecks_holds : Rows.RupChecksSaid := rupChecks_over (up_said7 begin_said) begin_said
theorem rupChecks_card : Rows.RupChecksCardSaid :=
  Claim7.holds_tied_plain_at .later [] [.handle] true (true, "53dd4d3c7a9303f09abffa4f3115afe66ffefe72e81d1ed59824f66a979bc086") true
    rupChecks_holds (fun _ h => by cases h) (by kernel_rfl) (fun _ h => by cases h) rupChecks_row_tie rfl ⟨rfl, rfl⟩ (by kernel_rfl) rfl
    (fun f fn hf hfn => by
      obtain rfl : f = 3 := Option.some.inj ((show Tryd.prog.funcNamed "trammel/trammellaw07.RupChecks" = some 3 by kernel_rfl).symm.trans hf) |>.symm
      obtain rfl : fn = Tryd.f3 := (Option.some.inj (Tryd.func3.symm.trans hfn)).symm
      exact ⟨by kernel_rfl, fun j t ht => by
        rw [Tryd.params3] at ht
        rcases j with _ | _ | _ | j
        · obtain rfl : 3 = t := by simpa using ht
          exact (show Tryd.prog.wantsStandIn 3 = false by kernel_rfl)
        · obtain rfl : 22 = t := by simpa using ht
          exact (show Tryd.prog.wantsStandIn 22 = false by kernel_rfl)
        · obtain rfl : 22 = t := by simpa using ht
          exact (show Tryd.prog.wantsStandIn 22 = false by kernel_rfl)
        · simp at ht⟩)
    (by kernel_rfl)
end Go.Proofs.YtlnkgemndojdnaaDoor
