/- What an error is: a code, or a place with a code; whether an error has a number (Code). -/
import Derived.Test.YtlnkgemndojdnaaDoorPrpU
import Derived.LaidEql
set_option linter.unusedVariables false
set_option linter.unusedSimpArgs false
namespace Go.Proofs.YtlnkgemndojdnaaDoor
set_option maxRecDepth 100000
open Go.RowKit

/-- An error: a code, or a place with a code. -/
def ErrIs (B : Nat) (x at' : Int) (er : Value) (w : World) : Prop :=
  (at' < 0 → er = codeV x) ∧ (0 ≤ at' → ∃ g, er = .iface 41 (.pointer (some ⟨g, 0, none⟩)) ∧ B ≤ g ∧ g < w.heap.size ∧ w.cell? ⟨g, 0, none⟩ = some (.int .i64 at') ∧ w.cell? ⟨g, 1, none⟩ = some (codeV x))
end Go.Proofs.YtlnkgemndojdnaaDoor
