/- RupNone is proved, for all n, all clauses and all steps: clauses of up to eight variables that are refuted have no values; the document's examples hold; the package variable errors.errorType holds what the program's text lays (the card ties it); no other conditions. -/
import Derived.Test.YtlnkgemndojdnaaDoorRupP3
import Derived.Test.YtlnkgemndojdnaaDoorPrpX0
import Derived.Test.YtlnkgemndojdnaaDoorTie
import Derived.Test.YtlnkgemndojdnaaDoorCards
import Derived.SevenTiedAt
set_option linter.unusedVariables false
set_option linter.unusedSimpArgs false
namespace Go.Proofs.YtlnkgemndojdnaaDoor
open Go
theorem rupNone_holds : Rows.RupNoneSaid := rupNone_over (up_said7 begin_said) begin_said
theorem rupNone_card : Rows.RupNoneCardSaid :=
  Claim7.holds_tied_plain_at .later [] [.handle] true (true, "53dd4d3c7a9303f09abffa4f3115afe66ffefe72e81d1ed59824f66a979bc086") true
    rupNone_holds (fun _ h => by cases h) (by kernel_rfl) (fun _ h => by cases h) rupNone_row_tie rfl ⟨rfl, rfl⟩ (by kernel_rfl) rfl
    (fun f fn hf hfn => by
      obtain rfl : f = 5 := Option.some.inj ((show Tryd.prog.funcNamed "trammel/trammellaw07.RupNone" = some 5 by kernel_rfl).symm.trans hf) |>.symm
      obtain rfl : fn = Tryd.f5 := (Option.some.inj (Tryd.func5.symm.trans hfn)).symm
      exact ⟨by kernel_rfl, fun j t ht => by
        rw [Tryd.params5] at ht
        rcases j with _ | _ | _ | j
        · obtain rfl : 3 = t := by simpa using ht
          exact (show Tryd.prog.wantsStandIn 3 = false by kernel_rfl)
        · obtain rfl : 22 = t := by simpa using ht
          exact (show Tryd.prog.wantsStandIn 22 = false by kernel_rfl)
        · obtain rfl : 22 = t := by simpa using ht
          exact (show Tryd.prog.wantsStandIn 22 = false by kernel_rfl)
        · simp at ht⟩)
    (by kernel_rfl)
end Go.Proofs.YtlnkgemndojdnaaDoor
