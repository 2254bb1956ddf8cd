/- PropFollows is proved, for all n, all clauses and all literals: what follows, or that there is a conflict, or what is amiss, is what the document says; the document's examples hold; no conditions. -/
import Derived.Test.YtgkeipeohjkeoaaPrpP4
import Derived.Test.YtgkeipeohjkeoaaPrpX0
set_option linter.unusedVariables false
set_option linter.unusedSimpArgs false
namespace Go.Proofs.Ytgkeipeohjkeoaa
theorem propFollows_holds : Rows.PropFollowsSaid := propFollows_over (up_said6 begin_said) begin_said
end Go.Proofs.Ytgkeipeohjkeoaa
