/- HeapKeeps is proved, for all sound heaps, addresses, fields and values: what was set is got, all else is as it was; what was dropped isn't there, and set again it is the same heap; a fresh address has no cell; the document's example holds; no conditions. -/
import Derived.Test.YteiomafciignkaaHepP3
set_option linter.unusedVariables false
set_option linter.unusedSimpArgs false
namespace Go.Proofs.Yteiomafciignkaa
theorem heapKeeps_holds : Rows.HeapKeepsSaid := heapKeeps_over
end Go.Proofs.Yteiomafciignkaa
