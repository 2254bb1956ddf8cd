/- HeapStays is proved, for all cells, addresses, fields and shares: cells and shares that are handed in stay as they are; what was answered stays, whatever becomes of them; the document's example holds; no conditions. -/
import Derived.Test.YteiomafciignkaaHepP5
set_option linter.unusedVariables false
set_option linter.unusedSimpArgs false
namespace Go.Proofs.Yteiomafciignkaa
theorem heapStays_holds : Rows.HeapStaysSaid := heapStays_over
end Go.Proofs.Yteiomafciignkaa
