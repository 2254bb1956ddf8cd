/- HeapDoes is proved, for all cells, addresses, fields and values: what cells have, and become, and what address none has, is what the document says; the document's example holds; no conditions. -/
import Derived.Test.YteiomafciignkaaHepP2
set_option linter.unusedVariables false
set_option linter.unusedSimpArgs false
namespace Go.Proofs.Yteiomafciignkaa
theorem heapDoes_holds : Rows.HeapDoesSaid := heapDoes_over
end Go.Proofs.Yteiomafciignkaa
