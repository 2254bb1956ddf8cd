/- The contracts of lin.Gcd, and of the document's own Gcd. -/
import Derived.Test.YtinineipfleoiaaLinD
namespace Go.Proofs.Ytinineipfleoiaa
open Go.RowKit

def gAt (l : List (Int × Int)) : Nat → Int
  | 0 => 0
  | i + 1 => (Nat.gcd (gAt l i).natAbs (l.getD i (0, 0)).2.natAbs : Nat)
theorem gAt_com (l : List (Int × Int)) (i : Nat) : com (gAt l i) (l.getD i (0, 0)).2 = gAt l (i + 1) := by rw [com_nat]; rfl

theorem gcd_small {a b : Nat} (ha : a ≤ 1073741824) (hb : b ≤ 1073741824) : Nat.gcd a b ≤ 1073741824 := by
  by_cases h : a = 0
  · subst h; simpa using hb
  · exact Nat.le_trans (Nat.gcd_le_left b (by omega)) ha
theorem gAt_in (l : List (Int × Int)) : ∀ i, (∀ j, j < i → -1073741824 ≤ (l.getD j (0, 0)).2 ∧ (l.getD j (0, 0)).2 ≤ 1073741824) → 0 ≤ gAt l i ∧ gAt l i ≤ 1073741824
  | 0, _ => by unfold gAt; omega
  | i + 1, h => by
    have h1 := gAt_in l i (fun j hj => h j (by omega))
    have h2 := h i (by omega)
    have := gcd_small (a := (gAt l i).natAbs) (b := (l.getD i (0, 0)).2.natAbs) (by omega) (by omega)
    unfold gAt; omega

theorem okAt_in {l : List (Int × Int)} {i : Nat} (h : okAt l i = true) : lastAt l i < (l.getD i (0, 0)).1 ∧ (l.getD i (0, 0)).2 ≠ 0 ∧ 0 ≤ (l.getD i (0, 0)).1 ∧ (l.getD i (0, 0)).1 < 1048576 ∧ -1073741824 ≤ (l.getD i (0, 0)).2 ∧ (l.getD i (0, 0)).2 ≤ 1073741824 := by
  unfold okAt chk mst wi at h
  simp only [Bool.and_eq_true, decide_eq_true_eq] at h
  exact ⟨h.1, h.2.1, h.2.2.1.1, h.2.2.1.2, h.2.2.2.1, h.2.2.2.2⟩

theorem gcd_step (a b : Int) : Nat.gcd a.natAbs b.natAbs = Nat.gcd b.natAbs (a.tmod b).natAbs := by
  rw [Int.natAbs_tmod, Nat.gcd_comm a.natAbs, Nat.gcd_rec b.natAbs a.natAbs, Nat.gcd_comm]
theorem gcd_emod {x y : Int} (hx : 0 ≤ x) (hy : 0 < y) : (Nat.gcd x.natAbs y.natAbs : Int) = (Nat.gcd y.natAbs (x % y).natAbs : Nat) ∧ 0 ≤ x % y ∧ x % y < y ∧ x.tmod y = x % y := by
  have h := Int.tmod_eq_emod_of_nonneg (b := y) hx
  refine ⟨by rw [← h, ← gcd_step], Int.emod_nonneg _ (by omega), Int.emod_lt_of_pos _ hy, h⟩

end Go.Proofs.Ytinineipfleoiaa
