/- RupStays is proved, for all n, all clauses and all steps: what is handed in stays as it is, and asked again the same is answered; the document's examples hold; the package variable errors.errorType holds what the program's text lays (the card ties it); no other conditions. -/
import Derived.Test.YtlnkgemndojdnaaDoorRupP4
import Derived.Test.YtlnkgemndojdnaaDoorPrpX0
import Derived.Test.YtlnkgemndojdnaaDoorTie
import Derived.Test.YtlnkgemndojdnaaDoorCards
import Derived.SevenTiedAt
set_option linter.unusedVariables false
set_option linter.unusedSimpArgs false
namespace Go.Proofs.YtlnkgemndojdnaaDoor
open Go
theorem rupStays_holds : Rows.RupStaysSaid := rupStays_over (up_said7 begin_said) begin_said
theorem rupStays_card : Rows.RupStaysCardSaid :=
  Claim7.holds_tied_plain_at .later [] [.handle] true (true, "53dd4d3c7a9303f09abffa4f3115afe66ffefe72e81d1ed59824f66a979bc086") true
    rupStays_holds (fun _ h => by cases h) (by kernel_rfl) (fun _ h => by cases h) rupStays_row_tie rfl ⟨rfl, rfl⟩ (by kernel_rfl) rfl
    (fun f fn hf hfn => by
      obtain rfl : f = 6 := Option.some.inj ((show Tryd.prog.funcNamed "trammel/trammellaw07.RupStays" = some 6 by kernel_rfl).symm.trans hf) |>.symm
      obtain rfl : fn = Tryd.f6 := (Option.some.inj (Tryd.func6.symm.trans hfn)).symm
      exact ⟨by kernel_rfl, fun j t ht => by
        rw [Tryd.params6] at ht
        rcases j with _ | _ | _ | j
        · obtain rfl : 3 = t := by simpa using ht
          exact (show Tryd.prog.wantsStandIn 3 = false by kernel_rfl)
        · obtain rfl : 22 = t := by simpa using ht
          exact (show Tryd.prog.wantsStandIn 22 = false by kernel_rfl)
        · obtain rfl : 22 = t := by simpa using ht
          exact (show Tryd.prog.wantsStandIn 22 = false by kernel_rfl)
        · simp at ht⟩)
    (by kernel_rfl)
end Go.Proofs.YtlnkgemndojdnaaDoor
