/- LinValues is proved, for all forms and values: lin.Value tells the value or what is amiss as the document's own answer does, lin.Same whether two forms are the same, and the document's examples hold; no conditions. -/
import Derived.Test.YtnefolkhoeocjaaLinW
import Derived.Test.YtnefolkhoeocjaaLinP4
namespace Go.Proofs.Ytnefolkhoeocjaa
theorem linValues_holds : Rows.LinValuesSaid := linValues_over up_said
end Go.Proofs.Ytnefolkhoeocjaa
