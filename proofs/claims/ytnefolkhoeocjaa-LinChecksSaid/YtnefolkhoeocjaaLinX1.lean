/- LinChecks is proved, for every form: lin.Check tells whether it is sound, lin.Gcd is the greatest number that divides its coefficients (0 of an unsound one), and the document's examples hold; no conditions. -/
import Derived.Test.YtnefolkhoeocjaaLinW
import Derived.Test.YtnefolkhoeocjaaLinP1
namespace Go.Proofs.Ytnefolkhoeocjaa
theorem linChecks_holds : Rows.LinChecksSaid := linChecks_over up_said
end Go.Proofs.Ytnefolkhoeocjaa
