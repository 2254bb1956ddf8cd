/- CnfRight is proved, for all formulas and all values: the formula's value is that of its clauses, with the values that the document gives the variables; the document's examples hold; the tables of strconv and math/bits hold what the program's text lays (the card ties them); no other conditions. -/
import Derived.Test.YtelndcmfddbgiaaDoorCt47
import Derived.Test.YtelndcmfddbgiaaDoorTie
import Derived.Test.YtelndcmfddbgiaaDoorCards
import Derived.SevenTiedAt
set_option linter.unusedVariables false
set_option linter.unusedSimpArgs false
set_option linter.unusedVariables false
set_option linter.unusedSimpArgs false
namespace Go.Proofs.YtelndcmfddbgiaaDoor
open Go
theorem cnfRight_holds : Rows.CnfRightSaid := cnfRight_over up_said9
theorem cnfRight_card : Rows.CnfRightCardSaid :=
  Claim7.holds_tied_plain_at .later [] [.data, .data, .data] true (true, "b205bad0effecc8e7301e225876a1f04d938b89aeddfcb6de5878703ebfa7c9d") true
    cnfRight_holds (fun _ h => by cases h) (by kernel_rfl) (fun _ h => by cases h) cnfRight_row_tie rfl ⟨rfl, rfl⟩ (by kernel_rfl) rfl
    (fun f fn hf hfn => by
      obtain rfl : f = 5 := Option.some.inj ((show Tryd.prog.funcNamed "trammel/trammellaw09.CnfRight" = some 5 by kernel_rfl).symm.trans hf) |>.symm
      obtain rfl : fn = Tryd.f5 := (Option.some.inj (Tryd.func5.symm.trans hfn)).symm
      exact ⟨by kernel_rfl, fun j t ht => by
        rw [Tryd.params5] at ht
        rcases j with _ | _ | j
        · obtain rfl : 27 = t := by simpa using ht
          exact (show Tryd.prog.wantsStandIn 27 = false by kernel_rfl)
        · obtain rfl : 45 = t := by simpa using ht
          exact (show Tryd.prog.wantsStandIn 45 = false by kernel_rfl)
        · simp at ht⟩)
    (by kernel_rfl)
end Go.Proofs.YtelndcmfddbgiaaDoor
