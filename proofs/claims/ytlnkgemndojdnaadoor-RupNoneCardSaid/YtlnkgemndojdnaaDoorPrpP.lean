/- Values that agree; the document's examples. -/
import Derived.Test.YtlnkgemndojdnaaDoorPrpO
set_option linter.unusedVariables false
set_option linter.unusedSimpArgs false
namespace Go.Proofs.YtlnkgemndojdnaaDoor
set_option maxRecDepth 100000
open Go.RowKit

theorem Der.holds {cs : List (List Int)} {ls : List Int} {v : Int → Prop} (hn : ∀ l, v l → ¬ v (-l)) (hc : ∀ c, c ∈ cs → ∃ l, l ∈ c ∧ v l) (hl : ∀ l, l ∈ ls → v l) {l : Int} (h : Der cs ls l) : v l := by
  induction h with
  | told h => exact hl _ h
  | @rule c l hm hlc _ ih =>
    obtain ⟨x, hx, hv⟩ := hc c hm
    by_cases e : x = l
    · subst e; exact hv
    · exact absurd (ih x hx e) (hn x hv)
theorem Conf.not {cs : List (List Int)} {ls : List Int} {v : Int → Prop} (hn : ∀ l, v l → ¬ v (-l)) (hc : ∀ c, c ∈ cs → ∃ l, l ∈ c ∧ v l) (hl : ∀ l, l ∈ ls → v l) : ¬ Conf cs ls := by
  rintro (h | ⟨l, h1, h2⟩)
  · obtain ⟨x, hx, _⟩ := hc _ h; cases hx
  · exact hn l (h1.holds hn hc hl) (h2.holds hn hc hl)
theorem up1_is {b : Bool} {A : Nat → Int} (h : FollowIs 2 [[-1, 2]] [1] b A) : b = false ∧ A 1 = 1 ∧ A 2 = 1 := by
  have d1 : Der [[-1, 2]] [1] 1 := .told (by simp)
  have d2 : Der [[-1, 2]] [1] 2 := .rule (c := [-1, 2]) (by simp) (by simp) (fun x hx hne => by
    have : x = -1 := by simp at hx; omega
    subst this; exact d1)
  cases h with
  | conf h => exact absurd h (Conf.not (v := fun l => 0 < l) (fun l h => by omega) (fun c hc => by rw [List.mem_singleton] at hc; subst hc; exact ⟨2, by simp, by decide⟩) (fun l hl => by rw [List.mem_singleton] at hl; subst hl; decide))
  | ok t z d h =>
    have a1 := (d 1 ⟨by decide, by decide, by decide⟩).2 d1
    have a2 := (d 2 ⟨by decide, by decide, by decide⟩).2 d2
    exact ⟨rfl, a1, a2⟩
theorem up2_is {b : Bool} {A : Nat → Int} (h : FollowIs 2 [[-1, 2], [-2]] [1] b A) : b = true := by
  have d1 : Der [[-1, 2], [-2]] [1] 1 := .told (by simp)
  have d2 : Der [[-1, 2], [-2]] [1] 2 := .rule (c := [-1, 2]) (by simp) (by simp) (fun x hx hne => by
    have : x = -1 := by simp at hx; omega
    subst this; exact d1)
  have d3 : Der [[-1, 2], [-2]] [1] (-2) := .rule (c := [-2]) (by simp) (by simp) (fun x hx hne => absurd (by simpa using hx) hne)
  cases h with
  | conf h => rfl
  | ok t z d h => exact absurd (.inr ⟨2, d2, d3⟩) h
theorem f1_zero : fK 2 [[-1, 2]] [1] = 0 := by decide
theorem f2_zero : fK 2 [[-1, 2], [-2]] [1] = 0 := by decide
def up1W (w : World) : World := ((w.alloc (.cells #[.int .i64 (-1), .int .i64 2] 3)).alloc (.cells #[.slice (some ⟨w.heap.size, 0, none⟩) 2 2] 34)).alloc (.cells #[.int .i64 1] 3)
theorem up1_given (w : World) : CLies (up1W w).heap.size (up1W w) (some ⟨w.heap.size + 1, 0, none⟩) [[-1, 2]] ∧ Nums (up1W w).heap.size (up1W w) (some ⟨w.heap.size + 1 + 1, 0, none⟩) [1] ∧ Below w.heap.size w (up1W w) := by
  have hz : (up1W w).heap.size = w.heap.size + 3 := by simp [up1W]
  have h0 : (up1W w).heap[w.heap.size]? = some (.cells #[.int .i64 (-1), .int .i64 2] 3 (0, 0)) := (by simp only [up1W, heap_at, World.size_alloc]; repeat (first | rw [if_pos trivial] | rw [if_pos (by omega)] | rw [if_neg (by omega)]))
  have h1 : (up1W w).heap[w.heap.size + 1]? = some (.cells #[.slice (some ⟨w.heap.size, 0, none⟩) 2 2] 34 (0, 0)) := (by simp only [up1W, heap_at, World.size_alloc]; repeat (first | rw [if_pos trivial] | rw [if_pos (by omega)] | rw [if_neg (by omega)]))
  have h2 : (up1W w).heap[w.heap.size + 1 + 1]? = some (.cells #[.int .i64 1] 3 (0, 0)) := (by simp only [up1W, heap_at, World.size_alloc]; repeat (first | rw [if_pos trivial] | rw [if_pos (by omega)] | rw [if_neg (by omega)]))
  have hb : Below w.heap.size w (up1W w) := by
    unfold up1W
    refine Below.alloc (Below.alloc (Below.alloc (Below.refl _ _) ?_ _) ?_ _) ?_ _ <;> simp <;> omega
  generalize up1W w = W at hz h0 h1 h2 hb ⊢
  have n0 : Nums W.heap.size W (some ⟨w.heap.size, 0, none⟩) [-1, 2] := fun i hi => by
    match i, hi with
    | 0, _ => exact ⟨_, 0, rfl, by omega, (cell_of_row _ _ _ _ _ _ h0).trans rfl⟩
    | 1, _ => exact ⟨_, 0, rfl, by omega, (cell_of_row _ _ _ _ _ _ h0).trans rfl⟩
  refine ⟨fun i hi => ?_, fun i hi => ?_, hb⟩
  · match i, hi with
    | 0, _ => exact ⟨_, 0, _, _, rfl, by omega, (cell_of_row _ _ _ _ _ _ h1).trans rfl, n0⟩
  · match i, hi with
    | 0, _ => exact ⟨_, 0, rfl, by omega, (cell_of_row _ _ _ _ _ _ h2).trans rfl⟩
def up2W (w : World) : World := (((w.alloc (.cells #[.int .i64 (-1), .int .i64 2] 3)).alloc (.cells #[.int .i64 (-2)] 3)).alloc (.cells #[.slice (some ⟨w.heap.size, 0, none⟩) 2 2, .slice (some ⟨w.heap.size + 1, 0, none⟩) 1 1] 34)).alloc (.cells #[.int .i64 1] 3)
theorem up2_given (w : World) : CLies (up2W w).heap.size (up2W w) (some ⟨w.heap.size + 1 + 1, 0, none⟩) [[-1, 2], [-2]] ∧ Nums (up2W w).heap.size (up2W w) (some ⟨w.heap.size + 1 + 1 + 1, 0, none⟩) [1] ∧ Below w.heap.size w (up2W w) := by
  have hz : (up2W w).heap.size = w.heap.size + 4 := by simp [up2W]
  have h0 : (up2W w).heap[w.heap.size]? = some (.cells #[.int .i64 (-1), .int .i64 2] 3 (0, 0)) := (by simp only [up2W, heap_at, World.size_alloc]; repeat (first | rw [if_pos trivial] | rw [if_pos (by omega)] | rw [if_neg (by omega)]))
  have h1 : (up2W w).heap[w.heap.size + 1]? = some (.cells #[.int .i64 (-2)] 3 (0, 0)) := (by simp only [up2W, heap_at, World.size_alloc]; repeat (first | rw [if_pos trivial] | rw [if_pos (by omega)] | rw [if_neg (by omega)]))
  have h2 : (up2W w).heap[w.heap.size + 1 + 1]? = some (.cells #[.slice (some ⟨w.heap.size, 0, none⟩) 2 2, .slice (some ⟨w.heap.size + 1, 0, none⟩) 1 1] 34 (0, 0)) := (by simp only [up2W, heap_at, World.size_alloc]; repeat (first | rw [if_pos trivial] | rw [if_pos (by omega)] | rw [if_neg (by omega)]))
  have h3 : (up2W w).heap[w.heap.size + 1 + 1 + 1]? = some (.cells #[.int .i64 1] 3 (0, 0)) := (by simp only [up2W, heap_at, World.size_alloc]; repeat (first | rw [if_pos trivial] | rw [if_pos (by omega)] | rw [if_neg (by omega)]))
  have hb : Below w.heap.size w (up2W w) := by
    unfold up2W
    refine Below.alloc (Below.alloc (Below.alloc (Below.alloc (Below.refl _ _) ?_ _) ?_ _) ?_ _) ?_ _ <;> simp <;> omega
  generalize up2W w = W at hz h0 h1 h2 h3 hb ⊢
  have n0 : Nums W.heap.size W (some ⟨w.heap.size, 0, none⟩) [-1, 2] := fun i hi => by
    match i, hi with
    | 0, _ => exact ⟨_, 0, rfl, by omega, (cell_of_row _ _ _ _ _ _ h0).trans rfl⟩
    | 1, _ => exact ⟨_, 0, rfl, by omega, (cell_of_row _ _ _ _ _ _ h0).trans rfl⟩
  have n1 : Nums W.heap.size W (some ⟨w.heap.size + 1, 0, none⟩) [-2] := fun i hi => by
    match i, hi with
    | 0, _ => exact ⟨_, 0, rfl, by omega, (cell_of_row _ _ _ _ _ _ h1).trans rfl⟩
  refine ⟨fun i hi => ?_, fun i hi => ?_, hb⟩
  · match i, hi with
    | 0, _ => exact ⟨_, 0, _, _, rfl, by omega, (cell_of_row _ _ _ _ _ _ h2).trans rfl, n0⟩
    | 1, _ => exact ⟨_, 0, _, _, rfl, by omega, (cell_of_row _ _ _ _ _ _ h2).trans rfl, n1⟩
  · match i, hi with
    | 0, _ => exact ⟨_, 0, rfl, by omega, (cell_of_row _ _ _ _ _ _ h3).trans rfl⟩

theorem Tryd.eqNilNil (w : World) : (binOp .eql 26 .nilIface .nilIface).run Tryd.prog w = .ok (.bool true) w := by simp [go_sem]
end Go.Proofs.YtlnkgemndojdnaaDoor
