/- lin.Make. -/
import Derived.Test.YtknagcednppokaaLinN
namespace Go.Proofs.Ytknagcednppokaa
open Go.RowKit

/-- Make's arguments may be. -/
def argOk (c : Int) (l : List (Int × Int)) : Prop := wi c 1073741824 = true ∧ l.length ≤ 4096 ∧ ∀ i, i < l.length → mayAt l i = true

theorem argOk_bd {c : Int} {l : List (Int × Int)} (h : argOk c l) : Bd 4398046511104 l ∧ ∀ m ∈ l, 0 ≤ m.1 ∧ m.1 < 1048576 := by
  have hm : ∀ m ∈ l, (0 ≤ m.1 ∧ m.1 < 1048576) ∧ -1073741824 ≤ m.2 ∧ m.2 ≤ 1073741824 := fun m hm => by
    obtain ⟨i, hi, rfl⟩ := List.getElem_of_mem hm
    have := h.2.2 i hi
    unfold mayAt mst wi at this
    rw [List.getD_eq_getElem?_getD, List.getElem?_eq_getElem hi] at this
    simpa using this
  exact ⟨fun m h => by have := hm m h; omega, fun m h => (hm m h).1⟩

end Go.Proofs.Ytknagcednppokaa
