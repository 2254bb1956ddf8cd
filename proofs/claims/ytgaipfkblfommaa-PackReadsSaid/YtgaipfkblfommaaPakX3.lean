/- PackReads is proved, for all bytes: the witness of any bytes, or what is amiss, is what the document says; the document's examples hold; no conditions. -/
import Derived.Test.YtgaipfkblfommaaPakP3
set_option linter.unusedVariables false
set_option linter.unusedSimpArgs false
namespace Go.Proofs.Ytgaipfkblfommaa
theorem packReads_holds : Rows.PackReadsSaid := packReads_over
end Go.Proofs.Ytgaipfkblfommaa
