/- FormOwn is proved, for every formula that formula.Light lets through, all values and every other variable: a formula's value hangs on its own variables alone; no conditions. -/
import Derived.Test.YtinineipfleoiaaFrmP5
import Derived.Test.YtinineipfleoiaaFrmU
namespace Go.Proofs.Ytinineipfleoiaa
theorem formOwn_holds : Rows.FormOwnSaid := formOwn_over up_said2
end Go.Proofs.Ytinineipfleoiaa
