/- PropOrder: its walk. -/
import Derived.Test.YtlnkgemndojdnaaDoorPrpGC
import Derived.BigRegion
set_option linter.unusedVariables false
set_option linter.unusedSimpArgs false
namespace Go.Proofs.YtlnkgemndojdnaaDoor
set_option maxRecDepth 100000
open Go.RowKit

def IRow (B : Nat) (l : List Int) (v : Value) (w : World) : Prop := w.ownsRow B 3 1 v l.length (l.map (Value.int .i64))
theorem IRow.nil (B : Nat) (w : World) : IRow B [] (.slice none 0 0) w := World.ownsRow_nil _ _ _ _
theorem IRow.below {B : Nat} {l : List Int} {v : Value} {w w' : World} (h : IRow B l v w) (hb : Below w.heap.size w w') : IRow B l v w' :=
  World.ownsRow.kept (row := none) h ⟨hb.os, hb.tape, hb.output, hb.size, fun q hq _ => hb.block q hq⟩ (by cases v.ownBlock <;> simp)
theorem IRow.snoc {B : Nat} {l : List Int} {y : Int} {v : Value} {w : World} (h : w.ownsRow B 3 1 v (l.length + 1) (l.map (Value.int .i64) ++ [.int .i64 y])) : IRow B (l ++ [y]) v w := by
  unfold IRow; rw [List.length_append, List.map_append]; exact h
theorem IRow.lies {B : Nat} {l : List Int} {v : Value} {w : World} (h : IRow B l v w) : ∃ a cap, v = .slice a l.length cap ∧ LiesG (fun b => B ≤ b ∧ b < w.heap.size) w a l := by
  have hc := fun g => World.ownsRow.cells h (g := g)
  have hlt := World.ownsRow.lt h
  obtain ⟨_, h1 | ⟨g, cap, cur, hv, h2⟩⟩ := h
  · exact ⟨none, 0, by rw [h1.1, h1.2], fun i hi => by omega⟩
  · subst hv
    refine ⟨some ⟨g, 0, none⟩, cap, rfl, fun i hi => ⟨g, 0, rfl, hlt g rfl, ?_⟩⟩
    have := hc g rfl i (.int .i64 (l.getD i 0)) (by simp [List.getD_eq_getElem?_getD, hi])
    rwa [show (⟨g, 0, none⟩ : Addr).add i = ⟨g, 0 + i, none⟩ by unfold Addr.add; split <;> simp_all] at this
theorem Tryd.eqIface (t : TypeId) (v : Value) (w : World) : (binOp .eql 26 (.iface t v) .nilIface).run Tryd.prog w = .ok (.bool false) w := by simp [go_sem]
theorem Tryd.eqNil (w : World) : (binOp .eql 26 .nilIface .nilIface).run Tryd.prog w = .ok (.bool true) w := by simp [go_sem]
end Go.Proofs.YtlnkgemndojdnaaDoor
