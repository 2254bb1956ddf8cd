/- LinStays is proved: for all constants, terms and multipliers what is handed in stays as it was, and what was answered stays whatever becomes of them; no conditions. -/
import Derived.Test.YtnefolkhoeocjaaLinW
import Derived.Test.YtnefolkhoeocjaaLinP6
namespace Go.Proofs.Ytnefolkhoeocjaa
theorem linStays_holds : Rows.LinStaysSaid := linStays_over up_said
end Go.Proofs.Ytnefolkhoeocjaa
