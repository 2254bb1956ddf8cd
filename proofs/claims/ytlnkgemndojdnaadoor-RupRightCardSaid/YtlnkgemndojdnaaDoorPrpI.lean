/- Six blocks that are made one after another. -/
import Derived.Test.YtlnkgemndojdnaaDoorPrpH
import Derived.Laws.MakeOwn
set_option linter.unusedVariables false
set_option linter.unusedSimpArgs false
namespace Go.Proofs.YtlnkgemndojdnaaDoor
set_option maxRecDepth 100000
open Go.RowKit

theorem run_make_ints (W : World) (z : Int) (n : Nat) (hz : z = n) (hn : n ≤ 40000) : (Instr.makeSlice 34 (.int .i64 z) (.int .i64 z)).run Tryd.prog W = .ok (.slice (some ⟨W.heap.size, 0, none⟩) n n) (W.alloc (.cells (madeCells #[.int .i64 0] n) 3)) := by
  subst hz
  obtain ⟨i0, hi, hz0, hz1, hz2⟩ := info_parts Tryd.infoInt
  have := run_make (P := Tryd.prog) W 34 3 i0 _ Tryd.underlying34 hi hz0 .i64 .i64 n n (by omega) (Int.le_refl _) (by rw [hz2]; omega) (by omega)
  rw [hz1] at this
  simpa [Value.cells] using this
theorem heap_at (w : World) (o : Obj) (k : Nat) : (w.alloc o).heap[k]? = if k = w.heap.size then some o else w.heap[k]? := by
  by_cases h : k = w.heap.size
  · rw [if_pos h, h]; exact heap_alloc_new w o
  · rw [if_neg h]
    by_cases h2 : k < w.heap.size
    · exact Below.heap_alloc w o k h2
    · rw [Array.getElem?_eq_none (by simp; omega), Array.getElem?_eq_none (by omega)]
section
variable (w : World) (o1 o2 o3 o4 o5 o6 : Obj)
theorem six1 : ((((((w.alloc o1).alloc o2).alloc o3).alloc o4).alloc o5).alloc o6).drew.heap[w.heap.size]? = some o1 := by
  have e : ∀ W : World, W.drew.heap = W.heap := fun _ => rfl
  simp only [e, heap_at, World.size_alloc]; repeat (first | rw [if_pos trivial] | rw [if_neg (by omega)])
theorem six2 : ((((((w.alloc o1).alloc o2).alloc o3).alloc o4).alloc o5).alloc o6).drew.heap[w.heap.size + 1]? = some o2 := by
  have e : ∀ W : World, W.drew.heap = W.heap := fun _ => rfl
  simp only [e, heap_at, World.size_alloc]; repeat (first | rw [if_pos trivial] | rw [if_neg (by omega)])
theorem six3 : ((((((w.alloc o1).alloc o2).alloc o3).alloc o4).alloc o5).alloc o6).drew.heap[w.heap.size + 1 + 1]? = some o3 := by
  have e : ∀ W : World, W.drew.heap = W.heap := fun _ => rfl
  simp only [e, heap_at, World.size_alloc]; repeat (first | rw [if_pos trivial] | rw [if_neg (by omega)])
theorem six4 : ((((((w.alloc o1).alloc o2).alloc o3).alloc o4).alloc o5).alloc o6).drew.heap[w.heap.size + 1 + 1 + 1]? = some o4 := by
  have e : ∀ W : World, W.drew.heap = W.heap := fun _ => rfl
  simp only [e, heap_at, World.size_alloc]; repeat (first | rw [if_pos trivial] | rw [if_neg (by omega)])
theorem six5 : ((((((w.alloc o1).alloc o2).alloc o3).alloc o4).alloc o5).alloc o6).drew.heap[w.heap.size + 1 + 1 + 1 + 1]? = some o5 := by
  have e : ∀ W : World, W.drew.heap = W.heap := fun _ => rfl
  simp only [e, heap_at, World.size_alloc]; repeat (first | rw [if_pos trivial] | rw [if_neg (by omega)])
theorem six6 : ((((((w.alloc o1).alloc o2).alloc o3).alloc o4).alloc o5).alloc o6).drew.heap[w.heap.size + 1 + 1 + 1 + 1 + 1]? = some o6 := by
  have e : ∀ W : World, W.drew.heap = W.heap := fun _ => rfl
  simp only [e, heap_at, World.size_alloc]; repeat (first | rw [if_pos trivial] | rw [if_neg (by omega)])
theorem six_below : Below w.heap.size w ((((((w.alloc o1).alloc o2).alloc o3).alloc o4).alloc o5).alloc o6).drew := by
  refine Below.drew (Below.alloc (Below.alloc (Below.alloc (Below.alloc (Below.alloc (Below.alloc (Below.refl _ w) ?_ _) ?_ _) ?_ _) ?_ _) ?_ _) ?_ _) <;> simp <;> omega
end
structure Begun (w wr : World) (a : Option Addr) (m cap n : Nat) (F I W H T S : Nat) : Prop where
  hF : wr.heap[F]? = some (.cells #[.slice a m cap, .slice (some ⟨I, 0, none⟩) (n + 1) (n + 1), .slice (some ⟨W, 0, none⟩) (2 * m) (2 * m), .slice (some ⟨H, 0, none⟩) (2 * n + 2) (2 * n + 2), .slice (some ⟨T, 0, none⟩) (2 * m) (2 * m), .slice (some ⟨S, 0, none⟩) m m, .slice none 0 0] 78 (0, 0))
  hI : wr.heap[I]? = some (.cells (madeCells #[.int .i64 0] (n + 1)) 3 (0, 0))
  hW : wr.heap[W]? = some (.cells (madeCells #[.int .i64 0] (2 * m)) 3 (0, 0))
  hH : wr.heap[H]? = some (.cells (madeCells #[.int .i64 0] (2 * n + 2)) 3 (0, 0))
  hT : wr.heap[T]? = some (.cells (madeCells #[.int .i64 0] (2 * m)) 3 (0, 0))
  hS : wr.heap[S]? = some (.cells (madeCells #[.int .i64 0] m) 3 (0, 0))
  ne : (F ≠ I ∧ F ≠ W ∧ F ≠ H ∧ F ≠ T ∧ F ≠ S) ∧ (I ≠ W ∧ I ≠ H ∧ I ≠ T ∧ I ≠ S) ∧ (W ≠ H ∧ W ≠ T ∧ W ≠ S) ∧ (H ≠ T ∧ H ≠ S) ∧ T ≠ S
  lo : w.heap.size ≤ F ∧ w.heap.size ≤ I ∧ w.heap.size ≤ W ∧ w.heap.size ≤ H ∧ w.heap.size ≤ T ∧ w.heap.size ≤ S
  b : Below w.heap.size w wr
end Go.Proofs.YtlnkgemndojdnaaDoor
