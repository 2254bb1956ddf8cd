/- LinAdds is proved: for all forms and multipliers lin.Add answers as the document's own Add does, and the document's examples hold; no conditions. -/
import Derived.Test.YtnefolkhoeocjaaLinW
import Derived.Test.YtnefolkhoeocjaaLinP3
namespace Go.Proofs.Ytnefolkhoeocjaa
theorem linAdds_holds : Rows.LinAddsSaid := linAdds_over up_said
end Go.Proofs.Ytnefolkhoeocjaa
