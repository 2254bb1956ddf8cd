/- NormTwice is proved, for every formula that is light enough for the statement: what is normalized is normalized as itself, and the document's example holds; no conditions. -/
import Derived.Test.YtknagcednppokaaNr10
import Derived.Test.YtknagcednppokaaNr35
set_option linter.unusedVariables false
set_option linter.unusedSimpArgs false
namespace Go.Proofs.Ytknagcednppokaa
theorem normTwice_holds : Rows.NormTwiceSaid := normTwice_over up_said3
end Go.Proofs.Ytknagcednppokaa
