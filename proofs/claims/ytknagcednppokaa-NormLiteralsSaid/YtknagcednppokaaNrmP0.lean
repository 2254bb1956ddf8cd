/- What the frames of layer 3 share. -/
import Derived.Test.YtknagcednppokaaFrmR
namespace Go.Proofs.Ytknagcednppokaa
open Go.ChangeShapes Go.WideShapes Go.ChangeAt Go.RowKit
theorem Try.own : ownKnob Try.prog.godebug = none := by kernel_rfl
theorem Try.laidOut : laidOutB Try.prog = true := by kernel_rfl
end Go.Proofs.Ytknagcednppokaa
