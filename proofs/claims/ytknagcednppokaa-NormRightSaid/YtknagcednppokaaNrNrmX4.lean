/- NormRight is proved, for every formula that is light enough for the statement, every form and all values: what is normalized Is, and has the formula's value, and a literal its form's, and the document's example holds; no conditions. -/
import Derived.Test.YtknagcednppokaaNr10
import Derived.Test.YtknagcednppokaaNr34
set_option linter.unusedVariables false
set_option linter.unusedSimpArgs false
namespace Go.Proofs.Ytknagcednppokaa
theorem normRight_holds : Rows.NormRightSaid := normRight_over up_said3
end Go.Proofs.Ytknagcednppokaa
