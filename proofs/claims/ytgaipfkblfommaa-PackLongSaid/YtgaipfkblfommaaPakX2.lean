/- PackLong is proved, for every length: a witness of more bytes than may be is not written, nor read; the document's examples hold; no conditions. -/
import Derived.Test.YtgaipfkblfommaaPakP2
set_option linter.unusedVariables false
set_option linter.unusedSimpArgs false
namespace Go.Proofs.Ytgaipfkblfommaa
theorem packLong_holds : Rows.PackLongSaid := packLong_over
end Go.Proofs.Ytgaipfkblfommaa
