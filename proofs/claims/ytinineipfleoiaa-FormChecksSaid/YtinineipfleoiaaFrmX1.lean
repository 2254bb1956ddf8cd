/- FormChecks is proved, for every formula that formula.Light lets through: formula.Check tells what is amiss, formula.Size how many it is made of (0 of an unsound one), and the document's examples hold; no conditions. -/
import Derived.Test.YtinineipfleoiaaFrmP1
namespace Go.Proofs.Ytinineipfleoiaa
theorem formChecks_holds : Rows.FormChecksSaid := formChecks_over up_said2
end Go.Proofs.Ytinineipfleoiaa
