/- PackWrites is proved, for all witnesses: the bytes of a witness, or what is amiss, are what the document says; the document's examples hold; no conditions. -/
import Derived.Test.YtgaipfkblfommaaPakP1
set_option linter.unusedVariables false
set_option linter.unusedSimpArgs false
namespace Go.Proofs.Ytgaipfkblfommaa
theorem packWrites_holds : Rows.PackWritesSaid := packWrites_over
end Go.Proofs.Ytgaipfkblfommaa
