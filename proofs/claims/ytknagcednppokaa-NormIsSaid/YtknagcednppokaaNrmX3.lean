/- NormIs is proved, for every formula that is light enough for the statement: norm.Is tells whether it is normalized, and the document's example holds; no conditions. -/
import Derived.Test.YtknagcednppokaaNrmP3
import Derived.Test.YtknagcednppokaaNrmH
namespace Go.Proofs.Ytknagcednppokaa
theorem normIs_holds : Rows.NormIsSaid := normIs_over up_said3
end Go.Proofs.Ytknagcednppokaa
