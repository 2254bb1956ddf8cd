/- CutLong is proved, for every n and every kind: as many premises, steps and parts as may be are taken, more aren't, and the document's example holds; the package variable errors.errorType holds what the program's text lays (the card ties it); no other conditions. -/
import Derived.Test.YtmjhjacbhflcpaaDoorMl09
import Derived.Test.YtmjhjacbhflcpaaDoorMl13
import Derived.Test.YtmjhjacbhflcpaaDoorTie
import Derived.Test.YtmjhjacbhflcpaaDoorCards
import Derived.SevenTiedAt
set_option linter.unusedVariables false
set_option linter.unusedSimpArgs false
namespace Go.Proofs.YtmjhjacbhflcpaaDoor
open Go
theorem cutLong_holds : Rows.CutLongSaid := cutLong_over up_said4
theorem cutLong_card : Rows.CutLongCardSaid :=
  Claim7.holds_tied_plain_at .later [] [.handle] true (true, "e5963c0c85b665b94266d004eb48c5c3c6b587fd9c61564359349344534cecc7") true
    cutLong_holds (fun _ h => by cases h) (by kernel_rfl) (fun _ h => by cases h) cutLong_row_tie rfl ⟨rfl, rfl⟩ (by kernel_rfl) rfl
    (fun f fn hf hfn => by
      obtain rfl : f = 5 := Option.some.inj ((show Tryd.prog.funcNamed "trammel/trammellaw04.CutLong" = some 5 by kernel_rfl).symm.trans hf) |>.symm
      obtain rfl : fn = Tryd.f5 := (Option.some.inj (Tryd.func5.symm.trans hfn)).symm
      exact ⟨by kernel_rfl, fun j t ht => by
        rw [Tryd.params5] at ht
        have h3 : t = 3 := by
          rcases j with _ | _ | j
          · simpa using ht.symm
          · simpa using ht.symm
          · simp at ht
        subst h3
        exact (show Tryd.prog.wantsStandIn 3 = false by kernel_rfl)⟩)
    (by kernel_rfl)
end Go.Proofs.YtmjhjacbhflcpaaDoor
