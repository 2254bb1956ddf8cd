/- PropOrder is proved, for all n, all clauses and all literals: clauses and literals the other way round give the same; the document's examples hold; no conditions. -/
import Derived.Test.YtgkeipeohjkeoaaPrpP6
import Derived.Test.YtgkeipeohjkeoaaPrpX0
set_option linter.unusedVariables false
set_option linter.unusedSimpArgs false
namespace Go.Proofs.Ytgkeipeohjkeoaa
theorem propOrder_holds : Rows.PropOrderSaid := propOrder_over (up_said6 begin_said) begin_said
end Go.Proofs.Ytgkeipeohjkeoaa
