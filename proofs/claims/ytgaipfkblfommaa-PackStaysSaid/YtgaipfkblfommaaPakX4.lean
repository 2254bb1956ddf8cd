/- PackStays is proved, for all bytes and witnesses: bytes that are handed in stay as they are; a witness that was read stays, whatever becomes of them; the document's examples hold; no conditions. -/
import Derived.Test.YtgaipfkblfommaaPakP4
set_option linter.unusedVariables false
set_option linter.unusedSimpArgs false
namespace Go.Proofs.Ytgaipfkblfommaa
theorem packStays_holds : Rows.PackStaysSaid := packStays_over
end Go.Proofs.Ytgaipfkblfommaa
