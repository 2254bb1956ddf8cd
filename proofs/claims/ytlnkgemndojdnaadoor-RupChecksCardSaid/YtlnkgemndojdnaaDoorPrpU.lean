/- PropChecks: its walk. -/
import Derived.Test.YtlnkgemndojdnaaDoorPrpP
import Derived.Test.YtlnkgemndojdnaaDoorPrpS
set_option linter.unusedVariables false
set_option linter.unusedSimpArgs false
namespace Go.Proofs.YtlnkgemndojdnaaDoor
set_option maxRecDepth 100000
open Go.RowKit

/-- Clauses that came in. -/
structure GivenC (w : World) (a : Option Addr) (m : Nat) (cs : List (List Int)) : Prop where
  hm : cs.length = m
  hmm : m ≤ 9223372036854775807
  hl : CLies w.heap.size w a cs
  hlen : ∀ j, j < m → (cs.getD j []).length ≤ 9223372036854775807
theorem GivenC.below {w W : World} {a : Option Addr} {m : Nat} {cs : List (List Int)} (h : GivenC w a m cs) (hb : Below w.heap.size w W) : GivenC W a m cs := ⟨h.hm, h.hmm, (h.hl.below hb).mono hb.size, h.hlen⟩
theorem LightIs.big {n : Int} {cs : List (List Int)} {m : Nat} (hm : cs.length = m) (h : LightIs n cs) : m ≤ 16384 → ∀ j, j < m → (cs.getD j []).length ≤ 4611686018427387904 := fun h1 j hj => by
  have := (h.len (by omega)).2 j (by omega)
  omega
end Go.Proofs.YtlnkgemndojdnaaDoor
