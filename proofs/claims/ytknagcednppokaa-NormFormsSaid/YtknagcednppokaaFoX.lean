/- NormForms is proved, for every formula that is light enough for the statement: norm.Norm answers as the document's Norm does, with the document's code, and the document's example holds; no conditions. -/
import Derived.Test.YtknagcednppokaaFo10
import Derived.Test.YtknagcednppokaaFo29
namespace Go.Proofs.Ytknagcednppokaa
theorem normForms_holds : Rows.NormFormsSaid := normForms_over up_said3
end Go.Proofs.Ytknagcednppokaa
