/- CnfMakes is proved, for all formulas: the clauses of any formula, or what is amiss, are what the document says; the document's examples hold; the tables of strconv and math/bits hold what the program's text lays (the card ties them); no other conditions. -/
import Derived.Test.YtelndcmfddbgiaaDoorCr24
import Derived.Test.YtelndcmfddbgiaaDoorTie
import Derived.Test.YtelndcmfddbgiaaDoorCards
import Derived.SevenTiedAt
set_option linter.unusedVariables false
set_option linter.unusedSimpArgs false
set_option linter.unusedVariables false
set_option linter.unusedSimpArgs false
namespace Go.Proofs.YtelndcmfddbgiaaDoor
open Go
theorem cnfMakes_holds : Rows.CnfMakesSaid := cnfMakes_over up_said9
theorem cnfMakes_card : Rows.CnfMakesCardSaid :=
  Claim7.holds_tied_plain_at .later [] [.data, .data, .data] true (true, "b205bad0effecc8e7301e225876a1f04d938b89aeddfcb6de5878703ebfa7c9d") true
    cnfMakes_holds (fun _ h => by cases h) (by kernel_rfl) (fun _ h => by cases h) cnfMakes_row_tie rfl ⟨rfl, rfl⟩ (by kernel_rfl) rfl
    (fun f fn hf hfn => by
      obtain rfl : f = 3 := Option.some.inj ((show Tryd.prog.funcNamed "trammel/trammellaw09.CnfMakes" = some 3 by kernel_rfl).symm.trans hf) |>.symm
      obtain rfl : fn = Tryd.f3 := (Option.some.inj (Tryd.func3.symm.trans hfn)).symm
      exact ⟨by kernel_rfl, fun j t ht => by
        rw [Tryd.params3] at ht
        rcases j with _ | j
        · obtain rfl : 27 = t := by simpa using ht
          exact (show Tryd.prog.wantsStandIn 27 = false by kernel_rfl)
        · simp at ht⟩)
    (by kernel_rfl)
end Go.Proofs.YtelndcmfddbgiaaDoor
