/- A list of numbers as an argument, bounded by the reach. -/
import Derived.Test.YtinineipfleoiaaLinR
import Derived.SizedLaws
namespace Go.Proofs.Ytinineipfleoiaa
open Go.ChangeShapes Go.WideShapes Go.ChangeAt Go.RowKit
variable {H : Type} {enc : TypeId × Value → H} {w : World} {base : Nat} {spare : Nat → Bool} {held : Bool}
theorem Try.bytesInt : Try.prog.bytesOf 3 = 8 := by kernel_rfl
/-- The reach of what is read bounds a list's length. -/
theorem nums_reach {ts : List TypeId} {ds : List (DataW H)} {j : Nat} {a : Option Addr} {n cap : Nat} {d : DataW H} {p : List MemPlace} (hsz : (DataW.weightsEach Try.prog ts ds).all (· ≤ reachBytes) = true)
    (h : DataW.Trod enc Try.prog w base spare held 38 (.slice a n cap) d p) (ht : ts[j]? = some 38) (hd : ds[j]? = some d) : n * 8 ≤ 140737488351232 := by
  obtain ⟨fuel, hf⟩ := h
  rcases DataW.trod_slice Try.underlying38 hf with ⟨hcs, _⟩ | ⟨b, len, cap', elems, rest, m, _, hcs, hx, _, _, _, hel, _⟩
  · simp [Value.cells] at hcs
    omega
  · simp [Value.cells] at hcs
    obtain ⟨_, rfl, _⟩ := hcs
    injection hx with hx _
    subst hx
    have := sized_slice hsz ht hd Try.underlying38
    rw [Try.bytesInt] at this
    simp only [List.length_map, reachBytes] at this
    omega
end Go.Proofs.Ytinineipfleoiaa
