/- LinMakes is proved: for all constants and terms lin.Make answers as the document's own Make does, and the document's examples hold; no conditions. -/
import Derived.Test.YtnefolkhoeocjaaLinW
import Derived.Test.YtnefolkhoeocjaaLinP2
namespace Go.Proofs.Ytnefolkhoeocjaa
theorem linMakes_holds : Rows.LinMakesSaid := linMakes_over up_said
end Go.Proofs.Ytnefolkhoeocjaa
