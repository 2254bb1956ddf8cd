/- FormStays is proved, for every formula that formula.Light lets through and all values: what is handed to formula.Check, Value and Vars stays as it is; no conditions. -/
import Derived.Test.YtinineipfleoiaaFrmP6
import Derived.Test.YtinineipfleoiaaFrmU
namespace Go.Proofs.Ytinineipfleoiaa
theorem formStays_holds : Rows.FormStaysSaid := formStays_over up_said2
end Go.Proofs.Ytinineipfleoiaa
