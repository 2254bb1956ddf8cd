/- A list of terms as an argument. -/
import Derived.Test.YtnefolkhoeocjaaLinR
import Derived.SizedLaws
namespace Go.Proofs.Ytnefolkhoeocjaa
open Go.ChangeShapes Go.WideShapes Go.ChangeAt Go.RowKit
variable {H : Type} {enc : TypeId × Value → H} {w : World} {base : Nat} {spare : Nat → Bool} {held : Bool}
theorem open_monos_v {r : Reach} {b0 : Nat} {v : Value} {d : DataW H} {p : List MemPlace} (hv : Value.okWide Try.prog w r b0 22 v) (h : DataW.Trod enc Try.prog w base spare held 22 v d p) :
    ∃ a n cap l, v = .slice a n cap ∧ Came w a n cap l := by
  obtain ⟨a, len, cap, rfl⟩ := okWide_slice Try.underlying22 hv
  obtain ⟨fuel, hf⟩ := h
  exact open_monos hf
theorem Try.bytesMono : Try.prog.bytesOf 50 = 16 := by kernel_rfl
/-- The reach of what is read bounds a list's length. -/
theorem mono_reach {ts : List TypeId} {ds : List (DataW H)} {j : Nat} {a : Option Addr} {n cap : Nat} {d : DataW H} {p : List MemPlace} (hsz : (DataW.weightsEach Try.prog ts ds).all (· ≤ reachBytes) = true)
    (h : DataW.Trod enc Try.prog w base spare held 22 (.slice a n cap) d p) (ht : ts[j]? = some 22) (hd : ds[j]? = some d) : n * 16 ≤ 140737488351232 := by
  obtain ⟨fuel, hf⟩ := h
  rcases DataW.trod_slice Try.underlying22 hf with ⟨hcs, _⟩ | ⟨b, len, cap', elems, rest, m, _, hcs, hx, _, _, _, hel, _⟩
  · simp [Value.cells] at hcs
    omega
  · simp [Value.cells] at hcs
    obtain ⟨_, rfl, _⟩ := hcs
    injection hx with hx _
    subst hx
    have := sized_slice hsz ht hd Try.underlying22
    rw [Try.bytesMono] at this
    simp only [List.length_map, reachBytes] at this
    omega
end Go.Proofs.Ytnefolkhoeocjaa
