/- NormStays is proved, for every formula that is light enough for the statement: a copy that is normalized, and asked whether it is normalized, stays as it is, and normalized again it gives the same, with the same code, and the document's example holds; no conditions. -/
import Derived.Test.YtknagcednppokaaNr10
import Derived.Test.YtknagcednppokaaNr37
set_option linter.unusedVariables false
set_option linter.unusedSimpArgs false
namespace Go.Proofs.Ytknagcednppokaa
theorem normStays_holds : Rows.NormStaysSaid := normStays_over up_said3
end Go.Proofs.Ytknagcednppokaa
