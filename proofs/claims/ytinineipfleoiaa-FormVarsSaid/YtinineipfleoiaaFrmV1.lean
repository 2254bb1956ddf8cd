/- A list of numbers that goes through calls: what each step leaves. -/
import Derived.Test.YtinineipfleoiaaFrmV0
import Derived.Test.YtinineipfleoiaaFrmD
namespace Go.Proofs.Ytinineipfleoiaa
open Go.RowKit

/-- From w0, whose row lay in R, up to w: the list is the call's own still; of old blocks only R has turned. -/
structure VSt (B : Nat) (w0 : World) (R : Option Nat) (l : List Int) (v : Value) (w : World) : Prop where
  row : IRow B l v w
  gr : w0.grownBy w R
  own : ∀ g, v.ownBlock = some g → R = some g ∨ w0.heap.size ≤ g
theorem VSt.start {B : Nat} {w : World} {l : List Int} {v : Value} (h : IRow B l v w) : VSt B w v.ownBlock l v w := ⟨h, World.grownBy.refl w _, fun _ hg => .inl hg⟩
theorem VSt.trans {B : Nat} {w0 W w' : World} {R : Option Nat} {l l' : List Int} {v v' : Value} (h : VSt B w0 R l v W) (k : VSt B W v.ownBlock l' v' w') : VSt B w0 R l' v' w' :=
  ⟨k.row, h.gr.andThen k.gr (fun j hj => (h.own j hj).symm), fun g hg => by
    rcases k.own g hg with e | e
    · exact h.own g e
    · exact .inr (Nat.le_trans h.gr.size e)⟩
theorem VSt.alloc {B : Nat} {w0 W : World} {R : Option Nat} {l : List Int} {v : Value} (h : VSt B w0 R l v W) (o : Obj) : VSt B w0 R l v (W.alloc o) :=
  h.trans ⟨World.ownsRow.alloc h.row o, World.grownBy_alloc W o _, fun _ hg => .inl hg⟩
theorem VSt.size {B : Nat} {w0 W : World} {R : Option Nat} {l : List Int} {v : Value} (h : VSt B w0 R l v W) : w0.heap.size ≤ W.heap.size := h.gr.size
/-- What lies below the base stays. -/
theorem VSt.below {B : Nat} {w0 W : World} {R : Option Nat} {l : List Int} {v : Value} (h : VSt B w0 R l v W) (hB : B ≤ w0.heap.size) (hR : ∀ g, R = some g → B ≤ g) : Below B w0 W := (Below.refl B w0).grown h.gr hB hR
/-- A block that isn't the list's stays. -/
theorem VSt.cell {B : Nat} {w0 W : World} {R : Option Nat} {l : List Int} {v x : Value} (h : VSt B w0 R l v W) {p : Addr} (hc : w0.cell? p = some x) (hne : some p.block ≠ R) : W.cell? p = some x := h.gr.cell hc hne
theorem IRow.ne {B : Nat} {l : List Int} {v : Value} {w : World} (h : IRow B l v w) (N : Nat) (hN : w.heap.size ≤ N) : some N ≠ v.ownBlock := fun e => by
  have := (World.ownsRow.lt h N e.symm).2
  omega
theorem IRow.base {B : Nat} {l : List Int} {v : Value} {w : World} (h : IRow B l v w) : ∀ g, v.ownBlock = some g → B ≤ g := fun g hg => (World.ownsRow.lt h g hg).1

/-- What an append of one number leaves. -/
theorem VSt.append {B : Nat} {w0 W w' : World} {R : Option Nat} {l : List Int} {v v' : Value} {x : Int} (h : VSt B w0 R l v W) (hrow : w'.ownsRow B 3 1 v' (l.length + 1) (ints l ++ [.int .i64 x])) (hg : W.grownBy w' v.ownBlock)
    (hat : v'.ownBlock = v.ownBlock ∨ v'.ownBlock = some W.heap.size) : VSt B w0 R (l ++ [x]) v' w' :=
  h.trans ⟨by unfold IRow; rw [List.length_append, ints_append]; exact hrow, hg, fun g hgg => by
    rcases hat with e | e
    · exact .inl (by rw [← e]; exact hgg)
    · rw [e] at hgg; injection hgg with hgg; exact .inr (by omega)⟩
theorem one_at (w : World) (x : Value) (t : TypeId) (N : Nat) (hN : w.heap.size = N) : ∀ j u, [x][j]? = some u → (w.alloc (.cells #[x] t)).cell? ((⟨N, 0, none⟩ : Addr).add j) = some u := by
  subst hN
  exact cell_one_new w x t
theorem one_int (x : Int) : ∀ u ∈ [Value.int .i64 x], u.oneCell' = true := by
  intro u hu
  obtain rfl := List.mem_singleton.1 hu
  rfl

/-- The variables of a formula, as they stand. -/
def vsF : Nat → FT → List Int
  | 0, _ => []
  | n + 1, f => f.t.map (·.1) ++ (f.ks.map (vsF n)).flatten
def tsTo (t : List (Int × Int)) (k : Nat) : List Int := (t.take k).map (·.1)
def vsTo (n : Nat) (ks : List FT) (k : Nat) : List Int := ((ks.take k).map (vsF n)).flatten
theorem tsTo_succ (t : List (Int × Int)) (k : Nat) (h : k < t.length) : tsTo t (k + 1) = tsTo t k ++ [(t.getD k (0, 0)).1] := by
  unfold tsTo
  rw [List.take_succ_eq_append_getElem h, List.map_append, List.map_cons, List.map_nil, List.getD_eq_getElem?_getD, List.getElem?_eq_getElem h, Option.getD_some]
theorem vsTo_succ (n : Nat) (ks : List FT) (k : Nat) (h : k < ks.length) : vsTo n ks (k + 1) = vsTo n ks k ++ vsF n (ks.getD k default) := by
  unfold vsTo
  rw [List.take_succ_eq_append_getElem h, List.map_append, List.flatten_append]
  simp [List.getD_eq_getElem?_getD, h]
theorem vsF_eq (n : Nat) (f : FT) : vsF (n + 1) f = tsTo f.t f.t.length ++ vsTo n f.ks f.ks.length := by
  unfold tsTo vsTo
  rw [List.take_length, List.take_length]
  rfl
theorem vsTo_le (n : Nat) (ks : List FT) (k : Nat) : (vsTo n ks k).length ≤ (vsTo n ks ks.length).length := by
  by_cases h : k ≤ ks.length
  · obtain ⟨j, hj⟩ : ∃ j, k + j = ks.length := ⟨ks.length - k, by omega⟩
    rw [← hj]
    clear hj h
    induction j with
    | zero => exact Nat.le_refl _
    | succ j ih =>
      by_cases h : k + j < ks.length
      · rw [← Nat.add_assoc, vsTo_succ n ks (k + j) h, List.length_append]; omega
      · unfold vsTo at ih ⊢
        rw [List.take_of_length_le (show ks.length ≤ k + (j + 1) by omega)]
        rw [List.take_of_length_le (show ks.length ≤ k + j by omega)] at ih
        exact ih
  · unfold vsTo
    rw [List.take_of_length_le (show ks.length ≤ k by omega), List.take_length]
    exact Nat.le_refl _
theorem tsTo_len (t : List (Int × Int)) (k : Nat) : (tsTo t k).length ≤ t.length := by
  unfold tsTo
  rw [List.length_map]
  exact List.length_take_le' _ _
end Go.Proofs.Ytinineipfleoiaa
