/- PropRight is proved, for all n, all clauses, all literals and all values: values by which all clauses and literals are true agree with what follows, and there is no conflict; the document's examples hold; no conditions. -/
import Derived.Test.YtgkeipeohjkeoaaPrpP3
import Derived.Test.YtgkeipeohjkeoaaPrpX0
set_option linter.unusedVariables false
set_option linter.unusedSimpArgs false
namespace Go.Proofs.Ytgkeipeohjkeoaa
theorem propRight_holds : Rows.PropRightSaid := propRight_over (up_said6 begin_said) begin_said
end Go.Proofs.Ytgkeipeohjkeoaa
