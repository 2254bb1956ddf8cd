/- FormValues is proved, for every formula that formula.Light lets through and all values: formula.Value tells whether it is true, or what is amiss, as the document's Value does; no conditions. -/
import Derived.Test.YtinineipfleoiaaFrmP3
import Derived.Test.YtinineipfleoiaaFrmU
namespace Go.Proofs.Ytinineipfleoiaa
theorem formValues_holds : Rows.FormValuesSaid := formValues_over up_said2
end Go.Proofs.Ytinineipfleoiaa
