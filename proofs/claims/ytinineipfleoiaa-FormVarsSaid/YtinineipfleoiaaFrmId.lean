/- formula.value. -/
import Derived.Test.YtinineipfleoiaaFrmI
import Derived.Test.YtinineipfleoiaaFrmIb
import Derived.Test.YtinineipfleoiaaFrmIc
namespace Go.Proofs.Ytinineipfleoiaa
open Go.RowKit
theorem value_any : ∀ (n : Nat) (f : FT) (cs : List Value) (a2 : Option Addr) (n2 cap2 : Nat) (zs : List Int) (w : World), FLies w.heap.size w n f cs → sndF n f = true → zs.length = n2 → Nums w.heap.size w a2 zs →
    Calls Try.prog 29 #[.agg cs.toArray, .slice a2 n2 cap2] w (ValEnd w.heap.size (vOf zs n f) w)
  | 0, _, _, _, _, _, _, _, h, _, _, _ => h.elim
  | n + 1, f, cs, a2, n2, cap2, zs, w, h, hs, hn2, hz => by
    have IH := value_any n
    rcases ownF_kind (sndF_split hs).1 with hk | hk | hk | hk | hk | hk
    · exact value_0 n f cs a2 n2 cap2 zs w IH h hs hn2 hz hk
    · exact value_1 n f cs a2 n2 cap2 zs w IH h hs hn2 hz hk
    · exact value_2 n f cs a2 n2 cap2 zs w IH h hs hn2 hz hk
    · exact value_3 n f cs a2 n2 cap2 zs w IH h hs hn2 hz hk
    · exact value_4 n f cs a2 n2 cap2 zs w IH h hs hn2 hz hk
    · exact value_5 n f cs a2 n2 cap2 zs w IH h hs hn2 hz hk
end Go.Proofs.Ytinineipfleoiaa
