/- CnfLong is proved, for all n: a formula of more variables than may be is not taken, one of fewer is; the document's examples hold; the tables of strconv and math/bits hold what the program's text lays (the card ties them); no other conditions. -/
import Derived.Test.YtelndcmfddbgiaaDoorCr25
import Derived.Test.YtelndcmfddbgiaaDoorTie
import Derived.Test.YtelndcmfddbgiaaDoorCards
import Derived.SevenTiedAt
set_option linter.unusedVariables false
set_option linter.unusedSimpArgs false
set_option linter.unusedVariables false
set_option linter.unusedSimpArgs false
namespace Go.Proofs.YtelndcmfddbgiaaDoor
open Go
theorem cnfLong_holds : Rows.CnfLongSaid := cnfLong_over up_said9
theorem cnfLong_card : Rows.CnfLongCardSaid :=
  Claim7.holds_tied_plain_at .later [] [.data, .data, .data] true (true, "b205bad0effecc8e7301e225876a1f04d938b89aeddfcb6de5878703ebfa7c9d") true
    cnfLong_holds (fun _ h => by cases h) (by kernel_rfl) (fun _ h => by cases h) cnfLong_row_tie rfl ⟨rfl, rfl⟩ (by kernel_rfl) rfl
    (fun f fn hf hfn => by
      obtain rfl : f = 4 := Option.some.inj ((show Tryd.prog.funcNamed "trammel/trammellaw09.CnfLong" = some 4 by kernel_rfl).symm.trans hf) |>.symm
      obtain rfl : fn = Tryd.f4 := (Option.some.inj (Tryd.func4.symm.trans hfn)).symm
      exact ⟨by kernel_rfl, fun j t ht => by
        rw [Tryd.params4] at ht
        rcases j with _ | j
        · obtain rfl : 3 = t := by simpa using ht
          exact (show Tryd.prog.wantsStandIn 3 = false by kernel_rfl)
        · simp at ht⟩)
    (by kernel_rfl)
end Go.Proofs.YtelndcmfddbgiaaDoor
