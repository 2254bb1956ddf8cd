/- CutStays is proved, for all premises and all steps: premises that are handed in stay as they are, lines that were told stay whatever becomes of the premises, and asked again the same is answered; the document's example holds; no conditions. -/
import Derived.Test.YtmjhjacbhflcpaaMs10
import Derived.Test.YtmjhjacbhflcpaaMs12
set_option linter.unusedVariables false
set_option linter.unusedSimpArgs false
namespace Go.Proofs.Ytmjhjacbhflcpaa
theorem cutStays_holds : Rows.CutStaysSaid := cutStays_over up_said4
end Go.Proofs.Ytmjhjacbhflcpaa
