/- The document's examples hold. -/
import Derived.Test.YtgkeipeohjkeoaaPrpP
import Derived.Test.YtgkeipeohjkeoaaPrpL
set_option linter.unusedVariables false
set_option linter.unusedSimpArgs false
namespace Go.Proofs.Ytgkeipeohjkeoaa
theorem begin_said : BeginSaid := fun n cs ls w hx a cap hc => begin_any hx a cap hc
end Go.Proofs.Ytgkeipeohjkeoaa
