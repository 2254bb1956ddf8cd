/- The document's examples hold. -/
import Derived.Test.YtlnkgemndojdnaaDoorPrpP
import Derived.Test.YtlnkgemndojdnaaDoorPrpL
set_option linter.unusedVariables false
set_option linter.unusedSimpArgs false
namespace Go.Proofs.YtlnkgemndojdnaaDoor
theorem begin_said : BeginSaid := fun n cs ls w hx a cap hc => begin_any hx a cap hc
end Go.Proofs.YtlnkgemndojdnaaDoor
