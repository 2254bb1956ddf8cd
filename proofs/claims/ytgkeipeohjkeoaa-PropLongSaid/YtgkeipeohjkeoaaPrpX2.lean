/- PropLong is proved, for every n, of clauses and of literals: as many as may be are taken, more aren't; the document's examples hold; no conditions. -/
import Derived.Test.YtgkeipeohjkeoaaPrpP2
import Derived.Test.YtgkeipeohjkeoaaPrpX0
set_option linter.unusedVariables false
set_option linter.unusedSimpArgs false
namespace Go.Proofs.Ytgkeipeohjkeoaa
theorem propLong_holds : Rows.PropLongSaid := propLong_over (up_said6 begin_said)
end Go.Proofs.Ytgkeipeohjkeoaa
