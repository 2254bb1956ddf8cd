/- Parts of a proof. -/
import Derived.Test.YtipahfcaplbifaaGreatDoorZ05
import Derived.Test.YtipahfcaplbifaaGreatDoorZ11
set_option linter.unusedVariables false
set_option linter.unusedSimpArgs false
set_option maxHeartbeats 60000000
set_option maxRecDepth 100000
namespace Go.Proofs.YtipahfcaplbifaaGreatDoor
namespace Prp
theorem begin_said:BeginSaid:=fun n cs ls w hx a cap hc=>begin_any hx a cap hc
end Prp
end Go.Proofs.YtipahfcaplbifaaGreatDoor
