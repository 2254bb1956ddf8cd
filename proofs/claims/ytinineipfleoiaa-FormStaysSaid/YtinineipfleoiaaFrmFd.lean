/- The document's own soundness of a formula. -/
import Derived.Test.YtinineipfleoiaaFrmF
import Derived.Test.YtinineipfleoiaaFrmFb
import Derived.Test.YtinineipfleoiaaFrmFc
namespace Go.Proofs.Ytinineipfleoiaa
open Go.RowKit
theorem rfine_any : ∀ (n : Nat) (f : FT) (cs : List Value) (w : World), FLies w.heap.size w n f cs →
    Calls Try.prog 28 #[.agg cs.toArray] w fun e w' => e = .returned (.bool (sndF n f)) ∧ Below w.heap.size w w'
  | 0, _, _, _, h => h.elim
  | n + 1, f, cs, w, h => by
    have IH := rfine_any n
    have hkk : f.kind = 0 ∨ f.kind = 1 ∨ f.kind = 2 ∨ f.kind = 3 ∨ f.kind = 4 ∨ f.kind = 5 ∨ f.kind = 6 ∨ ((f.kind == 0) = false ∧ (f.kind == 1) = false ∧ (f.kind == 2) = false ∧ (f.kind == 3) = false ∧ (f.kind == 4) = false ∧ (f.kind == 5) = false ∧ (f.kind == 6) = false) := by
      simp only [beq_eq_false_iff_ne, ne_eq]; omega
    rcases hkk with hk | hk | hk | hk | hk | hk | hk | hk
    · exact rfine_0 n f cs w IH h hk
    · exact rfine_1 n f cs w IH h hk
    · exact rfine_2 n f cs w IH h hk
    · exact rfine_3 n f cs w IH h hk
    · exact rfine_4 n f cs w IH h hk
    · exact rfine_5 n f cs w IH h hk
    · exact rfine_6 n f cs w IH h hk
    · exact rfine_7 n f cs w IH h hk
end Go.Proofs.Ytinineipfleoiaa
