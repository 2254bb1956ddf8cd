/- PropStays: its walk. -/
import Derived.Test.YtlnkgemndojdnaaDoorPrpGA
import Derived.BigRegion
set_option linter.unusedVariables false
set_option linter.unusedSimpArgs false
namespace Go.Proofs.YtlnkgemndojdnaaDoor
set_option maxRecDepth 100000
open Go.RowKit

theorem Tryd.infoInts : (Tryd.prog.info? 34).map (fun i => (i.zero, i.size, i.bytes)) = some (some (.slice none 0 0), 1, 24) := by kernel_rfl
def Put (B : Nat) (av : Option Addr) (lv : Nat) (w : World) : Prop := ∀ i, i < lv → ∃ I, av = some ⟨I, 0, none⟩ ∧ B ≤ I ∧ (∃ z, w.cell? ⟨I, i, none⟩ = some z) ∧ w.frozen? ⟨I, i, none⟩ = false
theorem Put.set {B : Nat} {I : Nat} {lv : Nat} {w : World} (h : Put B (some ⟨I, 0, none⟩) lv w) (k : Nat) (x : Value) : Put B (some ⟨I, 0, none⟩) lv (w.setCell ⟨I, k, none⟩ x) := fun i hi => by
  obtain ⟨I2, e, h1, ⟨z, h2⟩, h3⟩ := h i hi
  refine ⟨I2, e, h1, ?_, (World.frozen?_setCell _ _ _ _).trans h3⟩
  by_cases e2 : (⟨I, k, none⟩ : Addr) = ⟨I2, i, none⟩
  · rw [e2]; exact ⟨x, World.cell?_setCell_same _ _ _ h2⟩
  · exact ⟨z, (World.cell?_setCell_other _ _ _ _ e2).trans h2⟩
theorem FEnd.put {n : Int} {cs : List (List Int)} {ls : List Int} {w : World} {e : Ending} {w' : World} (h : FEnd n cs ls w e w') : Below w.heap.size w w' ∧ ∃ av lv capv b x, e = .returned (.tuple #[.slice av lv capv, .bool b, codeV x]) ∧ lv ≤ 8193 ∧ Put w.heap.size av lv w' := by
  obtain ⟨hb, v, b, rfl, hne, hz⟩ := h
  refine ⟨hb, ?_⟩
  by_cases h0 : fK n cs ls = 0
  · obtain ⟨m0, A, _, hm, _, _, hvt, hvf⟩ := hz h0
    cases b with
    | true => obtain rfl := hvt rfl; exact ⟨none, 0, 0, true, _, rfl, by omega, fun i hi => absurd hi (Nat.not_lt_zero _)⟩
    | false =>
      obtain ⟨I, rfl, h1, h2, h3, h4⟩ := hvf rfl
      exact ⟨_, _, _, false, _, rfl, by omega, fun i hi => ⟨I, rfl, h1, ⟨_, h3 i hi⟩, h4 i⟩⟩
  · obtain ⟨rfl, rfl⟩ := hne h0
    exact ⟨none, 0, 0, false, _, rfl, by omega, fun i hi => absurd hi (Nat.not_lt_zero _)⟩
theorem take_snocG (cs : List (List Int)) (k : Nat) (h : k < cs.length) : cs.take (k + 1) = cs.take k ++ [cs.getD k []] := by
  rw [List.take_succ_eq_append_getElem h, List.getD_eq_getElem?_getD, List.getElem?_eq_getElem h]; rfl
end Go.Proofs.YtlnkgemndojdnaaDoor
