/- CutFollows is proved, for all premises, all steps and all values: whatever whole numbers make all premises at most 0 make all lines so, and then the premises are not refuted; the document's example holds; no conditions. -/
import Derived.Test.YtmjhjacbhflcpaaMf09
import Derived.Test.YtmjhjacbhflcpaaMf11
set_option linter.unusedVariables false
set_option linter.unusedSimpArgs false
namespace Go.Proofs.Ytmjhjacbhflcpaa
theorem cutFollows_holds : Rows.CutFollowsSaid := cutFollows_over up_said4
end Go.Proofs.Ytmjhjacbhflcpaa
