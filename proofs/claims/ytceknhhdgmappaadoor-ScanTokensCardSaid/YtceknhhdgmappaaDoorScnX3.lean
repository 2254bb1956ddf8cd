/- ScanTokens is proved, for all sources: the tokens, or what is amiss first, are what the document says; the document's examples hold; the tables of strconv, math/bits and scan, strconv's two errors and errors.errorType hold what the program's text lays (the card ties them); no other conditions. -/
import Derived.Test.YtceknhhdgmappaaDoorScnP3
import Derived.Test.YtceknhhdgmappaaDoorTie
import Derived.Test.YtceknhhdgmappaaDoorCards
import Derived.SevenTiedAt
set_option linter.unusedVariables false
set_option linter.unusedSimpArgs false
namespace Go.Proofs.YtceknhhdgmappaaDoor
open Go
theorem scanTokens_holds : Rows.ScanTokensSaid := scanTokens_over up_said13
theorem scanTokens_card : Rows.ScanTokensCardSaid :=
  Claim7.holds_tied_plain_at .later [] [.data, .data, .data, .handle, .sentinel, .sentinel, .data, .data] true (true, "33cbe1b3895e8f132124af257b4ff46b54c225233ad4997d113a482f9e9fc007") true
    scanTokens_holds (fun _ h => by cases h) (by kernel_rfl) (fun _ h => by cases h) scanTokens_row_tie rfl ⟨rfl, rfl⟩ (by kernel_rfl) rfl
    (fun f fn hf hfn => by
      obtain rfl : f = 3 := Option.some.inj ((show Tryd.prog.funcNamed "trammel/trammellaw13.ScanTokens" = some 3 by kernel_rfl).symm.trans hf) |>.symm
      obtain rfl : fn = Tryd.f3 := (Option.some.inj (Tryd.func3.symm.trans hfn)).symm
      exact ⟨by kernel_rfl, fun j t ht => by
        rw [Tryd.params3] at ht
        rcases j with _ | j
        · obtain rfl : 9 = t := by simpa using ht
          exact (show Tryd.prog.wantsStandIn 9 = false by kernel_rfl)
        · simp at ht⟩)
    (by kernel_rfl)
end Go.Proofs.YtceknhhdgmappaaDoor
