/- HeapChecks is proved, for all cells: whether they are a sound heap is what the document says; the document's example holds; no conditions. -/
import Derived.Test.YteiomafciignkaaHepP1
set_option linter.unusedVariables false
set_option linter.unusedSimpArgs false
namespace Go.Proofs.Yteiomafciignkaa
theorem heapChecks_holds : Rows.HeapChecksSaid := heapChecks_over
end Go.Proofs.Yteiomafciignkaa
