/- The document's Is. -/
import Derived.Test.YtinineipfleoiaaFrmMa
import Derived.Test.YtinineipfleoiaaFrmMb
import Derived.Test.YtinineipfleoiaaFrmMc
namespace Go.Proofs.Ytinineipfleoiaa
open Go.RowKit
theorem is_any : ∀ (n : Nat) (f : FT) (cs : List Value) (a2 : Option Addr) (n2 cap2 : Nat) (zs : List Int) (w : World), FLies w.heap.size w n f cs → sndF n f = true → (vOf zs n f).2 = true → zs.length = n2 → n2 ≤ 9223372036854775807 → Nums w.heap.size w a2 zs →
    Calls Try.prog 31 #[.agg cs.toArray, .slice a2 n2 cap2] w fun e w' => e = .returned (.bool (vOf zs n f).1) ∧ Below w.heap.size w w'
  | 0, _, _, _, _, _, _, _, h, _, _, _, _, _ => h.elim
  | n + 1, f, cs, a2, n2, cap2, zs, w, h, hs, hv, hn2, hm2, hz => by
    have IH := is_any n
    rcases ownF_kind (sndF_split hs).1 with hk | hk | hk | hk | hk | hk
    · exact is_0 n f cs a2 n2 cap2 zs w IH h hs hv hn2 hm2 hz hk
    · exact is_1 n f cs a2 n2 cap2 zs w IH h hs hv hn2 hm2 hz hk
    · rcases hk with hk | hk
      · exact is_2 n f cs a2 n2 cap2 zs w IH h hs hv hn2 hm2 hz hk
      · exact is_3 n f cs a2 n2 cap2 zs w IH h hs hv hn2 hm2 hz hk
    · exact is_4 n f cs a2 n2 cap2 zs w IH h hs hv hn2 hm2 hz hk
    · exact is_5 n f cs a2 n2 cap2 zs w IH h hs hv hn2 hm2 hz hk
    · exact is_6 n f cs a2 n2 cap2 zs w IH h hs hv hn2 hm2 hz hk
end Go.Proofs.Ytinineipfleoiaa
