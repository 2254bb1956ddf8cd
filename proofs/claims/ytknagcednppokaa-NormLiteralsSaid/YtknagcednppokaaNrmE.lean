/- norm.up, norm.reduced. -/
import Derived.Test.YtknagcednppokaaNrmA
import Derived.Test.YtknagcednppokaaLinG
namespace Go.Proofs.Ytknagcednppokaa
open Go.RowKit

/-- A number divided by another one above 0, rounded up. -/
def upI (c g : Int) : Int := if 0 < c.tmod g then c.tdiv g + 1 else c.tdiv g

theorem tdiv_in {c g : Int} {B : Nat} (hc : c.natAbs ≤ B) : -(B : Int) ≤ c.tdiv g ∧ c.tdiv g ≤ B := by
  have h : (c.tdiv g).natAbs = c.natAbs / g.natAbs := Int.natAbs_tdiv c g
  have h2 := Nat.div_le_self c.natAbs g.natAbs
  omega
theorem upI_in {c g : Int} {B : Nat} (hc : c.natAbs ≤ B) : -(B : Int) ≤ upI c g ∧ upI c g ≤ B + 1 := by
  have := tdiv_in (g := g) hc
  unfold upI
  split <;> omega

theorem up_any (c g : Int) (w : World) (hg : 1 ≤ g) (hc : -1073741824 ≤ c ∧ c ≤ 1073741824) :
    Calls Try.prog 51 #[.int .i64 c, .int .i64 g] w fun e w' => e = .returned (.int .i64 (upI c g)) ∧ w = w' := by
  have hg0 : g ≠ 0 := by omega
  have hb := tdiv_in (c := c) (g := g) (B := 1073741824) (by omega)
  by_cases h : 0 < c.tmod g
  · have e : upI c g = c.tdiv g + 1 := by unfold upI; rw [if_pos h]
    rw [e]
    go_enter Try.func51, Try.ntmps51
    go_wp2
    go_ret
    exact ⟨rfl, rfl⟩
  · have e : upI c g = c.tdiv g := by unfold upI; rw [if_neg h]
    rw [e]
    go_enter Try.func51, Try.ntmps51
    go_wp2
    go_ret
    exact ⟨rfl, rfl⟩
end Go.Proofs.Ytknagcednppokaa
