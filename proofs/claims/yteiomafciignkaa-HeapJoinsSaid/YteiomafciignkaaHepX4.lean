/- HeapJoins is proved, for all shares: what the shares of two lists, joined, are is what the document says; the document's example holds; no conditions. -/
import Derived.Test.YteiomafciignkaaHepP4
set_option linter.unusedVariables false
set_option linter.unusedSimpArgs false
namespace Go.Proofs.Yteiomafciignkaa
theorem heapJoins_holds : Rows.HeapJoinsSaid := heapJoins_over
end Go.Proofs.Yteiomafciignkaa
