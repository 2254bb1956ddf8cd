/- The reach of clauses: how many. -/
import Derived.Test.YtgkeipeohjkeoaaPrpZ
set_option linter.unusedVariables false
set_option linter.unusedSimpArgs false
namespace Go.Proofs.Ytgkeipeohjkeoaa
open Go.ChangeShapes Go.WideShapes Go.ChangeAt Go.RowKit Go.Deep
variable {H : Type} {enc : TypeId × Value → H} {w : World} {base : Nat} {spare : Nat → Bool} {held : Bool}
set_option maxRecDepth 100000 in
theorem clauses_many {ts : List TypeId} {ds : List (DataW H)} {j : Nat} {a : Option Addr} {n cap : Nat} {d : DataW H} {p : List MemPlace} (hsz : (DataW.weightsEach Try.prog ts ds).all (· ≤ reachBytes) = true)
    (h : DataW.Trod enc Try.prog w base spare held 22 (.slice a n cap) d p) (ht : ts[j]? = some 22) (hd : ds[j]? = some d) :
    n * 24 ≤ 140737488351232 := by
  obtain ⟨fuel, hf⟩ := h
  rcases DataW.trod_slice Try.underlying22 hf with ⟨hcs, _⟩ | ⟨x, len, cap', elems, rest, m, _, hcs, hx, _, _, _, hel, hi, _⟩
  · simp [Value.cells] at hcs
    obtain ⟨_, rfl, _⟩ := hcs
    omega
  · simp [Value.cells] at hcs
    obtain ⟨rfl, rfl, _⟩ := hcs
    injection hx with hx _
    subst hx
    have h1 := sized_slice hsz ht hd Try.underlying22
    rw [Try.bytesInts] at h1
    simp only [List.length_map, reachBytes] at h1
    omega
end Go.Proofs.Ytgkeipeohjkeoaa
