/- PropChecks is proved, for all n, all clauses and all values: what is amiss with clauses, and whether all are true, are what the document says; the document's examples hold; no conditions. -/
import Derived.Test.YtgkeipeohjkeoaaPrpP1
import Derived.Test.YtgkeipeohjkeoaaPrpX0
set_option linter.unusedVariables false
set_option linter.unusedSimpArgs false
namespace Go.Proofs.Ytgkeipeohjkeoaa
theorem propChecks_holds : Rows.PropChecksSaid := propChecks_over (up_said6 begin_said)
end Go.Proofs.Ytgkeipeohjkeoaa
