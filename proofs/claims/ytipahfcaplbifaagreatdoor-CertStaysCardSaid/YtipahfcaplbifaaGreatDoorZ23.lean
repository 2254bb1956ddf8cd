/- Parts of a proof. -/
import Derived.Test.YtipahfcaplbifaaGreatDoorZ20
import Derived.Deep.DeepCutAuto
set_option linter.unusedVariables false
set_option linter.unusedSimpArgs false
set_option maxHeartbeats 60000000
set_option maxRecDepth 100000
namespace Go.Proofs.YtipahfcaplbifaaGreatDoor
end Go.Proofs.YtipahfcaplbifaaGreatDoor
