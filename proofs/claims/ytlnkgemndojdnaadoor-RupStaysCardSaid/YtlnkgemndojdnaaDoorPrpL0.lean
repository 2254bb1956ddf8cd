/- What begin comes to. -/
import Derived.Test.YtlnkgemndojdnaaDoorPrpK
set_option linter.unusedVariables false
set_option linter.unusedSimpArgs false
namespace Go.Proofs.YtlnkgemndojdnaaDoor
set_option maxRecDepth 100000
open Go.RowKit

def BeginEnd (n : Nat) (cs : List (List Int)) (ls : List Int) (w : World) (e : Ending) (w' : World) : Prop :=
  ∃ p Wd H T S L, e = .returned (.pointer (some ⟨p.F, 0, none⟩)) ∧ St w.heap.size n cs ls p w' (fun _ => 0) Wd H T S [] L [] ∧ (∀ i c, cs[i]? = some c → ¬ act c → S i = c.length + 1) ∧ Below w.heap.size w w'
def Jbeg (B n : Nat) (cs : List (List Int)) (p : FolS) (w : World) (j : Nat) (wr : World) : Prop :=
  ∃ Wd H T S L, Fol B n cs.length p wr (fun _ => 0) Wd H T S [] ∧ Beg n cs j Wd H T S L ∧ Below B w wr
end Go.Proofs.YtlnkgemndojdnaaDoor
