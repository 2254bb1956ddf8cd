/- What symmerge says. -/
import Derived.Test.YteiomafciignkaaHepZ
import Derived.Test.YteiomafciignkaaHepV
set_option linter.unusedVariables false
set_option linter.unusedSimpArgs false
namespace Go.Proofs.Yteiomafciignkaa
set_option maxRecDepth 100000
open Go.RowKit

def SymSaid (B g n cap d : Nat) : Prop := ∀ (xs : List HC) (a m b : Nat) (W : World), b - a < d → RowAt B g n cap xs W → a < m → m < b → b ≤ n → SortedSeg xs a m → SortedSeg xs m b → Calls Try.prog 42 #[.slice (some ⟨g, 0, none⟩) n cap, .int .i64 a, .int .i64 m, .int .i64 b, .func (.func 30) #[] #[]] W (SegEnd B g n cap xs a b W)
end Go.Proofs.Yteiomafciignkaa
