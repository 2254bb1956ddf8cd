/- CnfStays is proved, for all formulas: formulas that are handed in stay as they are, and clauses that were told stay, whatever becomes of them; the document's examples hold; the tables of strconv and math/bits hold what the program's text lays (the card ties them); no other conditions. -/
import Derived.Test.YtelndcmfddbgiaaDoorCs28
import Derived.Test.YtelndcmfddbgiaaDoorTie
import Derived.Test.YtelndcmfddbgiaaDoorCards
import Derived.SevenTiedAt
set_option linter.unusedVariables false
set_option linter.unusedSimpArgs false
set_option linter.unusedVariables false
set_option linter.unusedSimpArgs false
namespace Go.Proofs.YtelndcmfddbgiaaDoor
open Go
theorem cnfStays_holds : Rows.CnfStaysSaid := cnfStays_over up_said9
theorem cnfStays_card : Rows.CnfStaysCardSaid :=
  Claim7.holds_tied_plain_at .later [] [.data, .data, .data] true (true, "b205bad0effecc8e7301e225876a1f04d938b89aeddfcb6de5878703ebfa7c9d") true
    cnfStays_holds (fun _ h => by cases h) (by kernel_rfl) (fun _ h => by cases h) cnfStays_row_tie rfl ⟨rfl, rfl⟩ (by kernel_rfl) rfl
    (fun f fn hf hfn => by
      obtain rfl : f = 6 := Option.some.inj ((show Tryd.prog.funcNamed "trammel/trammellaw09.CnfStays" = some 6 by kernel_rfl).symm.trans hf) |>.symm
      obtain rfl : fn = Tryd.f6 := (Option.some.inj (Tryd.func6.symm.trans hfn)).symm
      exact ⟨by kernel_rfl, fun j t ht => by
        rw [Tryd.params6] at ht
        rcases j with _ | j
        · obtain rfl : 27 = t := by simpa using ht
          exact (show Tryd.prog.wantsStandIn 27 = false by kernel_rfl)
        · simp at ht⟩)
    (by kernel_rfl)
end Go.Proofs.YtelndcmfddbgiaaDoor
