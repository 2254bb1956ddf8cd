/- FormLong is proved, for every number: a formula of up to 4096 parts is sound, one of more is ErrLong; no conditions. -/
import Derived.Test.YtinineipfleoiaaFrmP2
import Derived.Test.YtinineipfleoiaaFrmU
namespace Go.Proofs.Ytinineipfleoiaa
theorem formLong_holds : Rows.FormLongSaid := formLong_over up_said2
end Go.Proofs.Ytinineipfleoiaa
