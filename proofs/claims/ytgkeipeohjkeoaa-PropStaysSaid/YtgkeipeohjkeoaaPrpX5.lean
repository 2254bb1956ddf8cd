/- PropStays is proved, for all n, all clauses and all literals: what is handed in stays as it is, whatever is written to the answer; the document's examples hold; no conditions. -/
import Derived.Test.YtgkeipeohjkeoaaPrpP5
import Derived.Test.YtgkeipeohjkeoaaPrpX0
set_option linter.unusedVariables false
set_option linter.unusedSimpArgs false
namespace Go.Proofs.Ytgkeipeohjkeoaa
theorem propStays_holds : Rows.PropStaysSaid := propStays_over (up_said6 begin_said) begin_said
end Go.Proofs.Ytgkeipeohjkeoaa
