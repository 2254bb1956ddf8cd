/- Parts of a proof. -/
import Derived.Test.YtcinokljkieijaaGreatDoorD01
import Derived.Test.YtcinokljkieijaaGreatDoorD04
set_option linter.unusedVariables false
set_option linter.unusedSimpArgs false
set_option maxHeartbeats 60000000
set_option maxRecDepth 100000
namespace Go.Proofs.YtcinokljkieijaaGreatDoor
section
open Go.RowKit
theorem deep_ok4a:((List.range 24).all fun i=>deepOk 4 (0+i))=true:=by kernel_rfl
theorem deep_ok4b:((List.range 8).all fun i=>deepOk 4 (24+i))=true:=by kernel_rfl
theorem deep_ok4c:((List.range 5).all fun i=>deepOk 4 (32+i))=true:=by kernel_rfl
theorem deep_ok4d:((List.range 4).all fun i=>deepOk 4 (37+i))=true:=by kernel_rfl
theorem deep_fit4 (n:Nat)(h:n≤40):(pparse (bSrc 4 n)).1=0:=by
 by_cases h1:n<24
 ·exact deep_all (by decide) deep_ok4a n (Nat.zero_le _) (by omega)
 ·by_cases h2:n<32
  ·exact deep_all (by decide) deep_ok4b n (by omega) (by omega)
  ·by_cases h3:n<37
   ·exact deep_all (by decide) deep_ok4c n (by omega) (by omega)
   ·exact deep_all (by decide) deep_ok4d n (by omega) (by omega)
end
end Go.Proofs.YtcinokljkieijaaGreatDoor
