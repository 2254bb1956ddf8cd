/- What the frames of layer 2 share. -/
import Derived.Test.YtinineipfleoiaaFrmR
namespace Go.Proofs.Ytinineipfleoiaa
open Go.ChangeShapes Go.WideShapes Go.ChangeAt Go.RowKit
theorem Try.own : ownKnob Try.prog.godebug = none := by kernel_rfl
theorem Try.laidOut : laidOutB Try.prog = true := by kernel_rfl
end Go.Proofs.Ytinineipfleoiaa
