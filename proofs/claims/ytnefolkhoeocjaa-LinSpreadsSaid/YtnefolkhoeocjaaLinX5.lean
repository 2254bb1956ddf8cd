/- LinSpreads is proved, for all forms, multipliers and values: where nothing is amiss, the value of what lin.Add tells is x and y times the values together, and the document's examples hold; no conditions. -/
import Derived.Test.YtnefolkhoeocjaaLinW
import Derived.Test.YtnefolkhoeocjaaLinP5
namespace Go.Proofs.Ytnefolkhoeocjaa
theorem linSpreads_holds : Rows.LinSpreadsSaid := linSpreads_over up_said
end Go.Proofs.Ytnefolkhoeocjaa
