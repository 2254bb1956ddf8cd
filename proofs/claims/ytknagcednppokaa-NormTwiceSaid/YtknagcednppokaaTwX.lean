/- NormTwice is proved, for every formula that is light enough for the statement: what is normalized is normalized as itself, and the document's example holds; no conditions. -/
import Derived.Test.YtknagcednppokaaTw10
import Derived.Test.YtknagcednppokaaTw30
namespace Go.Proofs.Ytknagcednppokaa
theorem normTwice_holds : Rows.NormTwiceSaid := normTwice_over up_said3
end Go.Proofs.Ytknagcednppokaa
