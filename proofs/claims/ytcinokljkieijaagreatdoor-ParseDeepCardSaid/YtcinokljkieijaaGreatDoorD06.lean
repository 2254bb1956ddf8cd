/- Parts of a proof. -/
import Derived.Test.YtcinokljkieijaaGreatDoorD01
import Derived.Test.YtcinokljkieijaaGreatDoorD04
set_option linter.unusedVariables false
set_option linter.unusedSimpArgs false
set_option maxHeartbeats 60000000
set_option maxRecDepth 100000
namespace Go.Proofs.YtcinokljkieijaaGreatDoor
section
open Go.RowKit
theorem deep_ok0:((List.range 41).all fun i=>deepOk 0 (0+i))=true:=by kernel_rfl
theorem deep_ok1:((List.range 41).all fun i=>deepOk 1 (0+i))=true:=by kernel_rfl
theorem deep_ok2:((List.range 41).all fun i=>deepOk 2 (0+i))=true:=by kernel_rfl
theorem deep_ok3:((List.range 41).all fun i=>deepOk 3 (0+i))=true:=by kernel_rfl
end
end Go.Proofs.YtcinokljkieijaaGreatDoor
