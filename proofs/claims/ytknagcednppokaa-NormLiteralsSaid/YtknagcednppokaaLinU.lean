/- Two errors of one integer type held against each other; the document's examples of layer 1. -/
import Derived.Test.YtknagcednppokaaLinF
import Derived.LaidEql
import Derived.Lib.QuietBelow
namespace Go.Proofs.Ytknagcednppokaa
open Go.RowKit

section
variable {P : Program} (w : World)
theorem run_equalIn_iface_int (d : Nat) {ti tn : TypeId} {ms : Array (String × TypeId)} {i : TypeInfo} {k : IntKind} (a b : Int)
    (hi : P.underlying ti = some (.interface ms)) (hn : P.underlying tn = some (.int k)) (hinfo : P.info? tn = some i) (hcomp : i.comparable = true) :
    (Op.equalIn (d + 2) ti (.iface tn (.int k a)) (.iface tn (.int k b))).run P w = .ok (a == b) w := by
  simp [Op.equalIn, run_underlying hi, run_underlying hn, typeInfo, hinfo, hcomp]
theorem run_eql_iface_int {ti tn : TypeId} {ms : Array (String × TypeId)} {i : TypeInfo} {k : IntKind} (a b : Int)
    (hi : P.underlying ti = some (.interface ms)) (hn : P.underlying tn = some (.int k)) (hinfo : P.info? tn = some i) (hcomp : i.comparable = true) :
    (binOp .eql ti (.iface tn (.int k a)) (.iface tn (.int k b))).run P w = .ok (.bool (a == b)) w := by
  simp only [binOp]
  simp [Op.equal, Op.maxDepth, run_equalIn_iface_int w 9998 a b hi hn hinfo hcomp]
end

theorem Try.eqCode (a b : Int) (w : World) : (binOp .eql 30 (.iface 53 (.int .i64 a)) (.iface 53 (.int .i64 b))).run Try.prog w = .ok (.bool (a == b)) w :=
  run_eql_iface_int (P := Try.prog) w a b Try.underlying30 Try.underlying53 (i := Try.t53) (by kernel_rfl) (by kernel_rfl)

/-- In a world of which a region has made more, and drawn. -/
theorem regrown_trans {w : World} {B : Nat} {W : World} (h : Below B w W) (hB : B ≤ W.heap.size) (d : Nat) (os : Array Obj) : Below B w (Go.Sort.grow (redrawn W d) os) := h.trans ((below_regrown W d os).mono hB)
end Go.Proofs.Ytknagcednppokaa
