/- NormLiterals is proved, for every form: norm.Literal answers as the document's Literal does, and the document's example holds; no conditions. -/
import Derived.Test.YtknagcednppokaaNrmP1
import Derived.Test.YtknagcednppokaaNrmH
namespace Go.Proofs.Ytknagcednppokaa
theorem normLiterals_holds : Rows.NormLiteralsSaid := normLiterals_over up_said3
end Go.Proofs.Ytknagcednppokaa
