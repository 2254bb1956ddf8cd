/- FormVars is proved, for every formula that formula.Light lets through: formula.Vars tells its variables, each once, in order; no conditions. -/
import Derived.Test.YtinineipfleoiaaFrmP4
import Derived.Test.YtinineipfleoiaaFrmU
namespace Go.Proofs.Ytinineipfleoiaa
theorem formVars_holds : Rows.FormVarsSaid := formVars_over up_said2
end Go.Proofs.Ytinineipfleoiaa
