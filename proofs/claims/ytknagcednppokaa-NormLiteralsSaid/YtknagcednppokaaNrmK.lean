/- The document's Up; what a round of its Literal keeps. -/
import Derived.Test.YtknagcednppokaaNrmJ0
import Derived.Deep.RegionLaw
import Derived.Maps.Range
namespace Go.Proofs.Ytknagcednppokaa
open Go.RowKit

theorem upI_ceil {c g : Int} (hg : 1 ≤ g) : c ≤ upI c g * g ∧ (upI c g - 1) * g < c := by
  have h1 : c.tmod g + g * c.tdiv g = c := Int.tmod_add_mul_tdiv c g
  have h2 : c.tmod g < g := Int.tmod_lt_of_pos c (by omega)
  have h3 : -g < c.tmod g := by
    have := Int.natAbs_tmod c g
    have h4 : c.natAbs % g.natAbs < g.natAbs := Nat.mod_lt _ (by omega)
    omega
  rw [Int.mul_comm] at h1
  unfold upI
  generalize c.tdiv g = q at h1 ⊢
  generalize c.tmod g = r at h1 h2 h3 ⊢
  have e1 : (q + 1) * g = q * g + g := by rw [Int.add_mul, Int.one_mul]
  have e2 : (q - 1) * g = q * g - g := by rw [Int.sub_mul, Int.one_mul]
  generalize q * g = X at h1 e1 e2
  split
  · rw [e1, show q + 1 - 1 = q by omega]
    constructor
    · omega
    · rename_i h5
      have : q * g = X := by have := e1; rw [Int.add_mul, Int.one_mul] at this; omega
      omega
  · rw [e2]
    have : q * g = X := by have := e1; rw [Int.add_mul, Int.one_mul] at this; omega
    omega
theorem upI_near (c g : Int) : c.tdiv g = upI c g ∨ c.tdiv g = upI c g - 1 := by
  unfold upI
  split <;> omega

set_option maxHeartbeats 1000000 in
theorem rup_any (c g : Int) (w : World) (hg : 1 ≤ g ∧ g ≤ 1073741824) (hc : -1073741824 ≤ c ∧ c ≤ 1073741824) :
    Calls Try.prog 30 #[.int .i64 c, .int .i64 g] w fun e w' => e = .returned (.int .i64 (upI c g)) ∧ w = w' := by
  have hg0 : g ≠ 0 := by omega
  obtain ⟨k1, k2⟩ := upI_ceil (c := c) hg.1
  have hn := upI_near c g
  have hub := upI_in (c := c) (g := g) (B := 1073741824) (by omega)
  have hqb := tdiv_in (c := c) (g := g) (B := 1073741824) (by omega)
  have hwd : IntKind.i64.wrap (c.tdiv g) = c.tdiv g := IntWalk.i64_in _ (by omega)
  generalize upI c g = u at k1 k2 hn hub ⊢
  have e2 : (u - 1) * g = u * g - g := by rw [Int.sub_mul, Int.one_mul]
  have hw1 : IntKind.i64.wrap (u * g) = u * g := IntWalk.i64_in _ (by rw [e2] at k2; omega)
  have hw2 : IntKind.i64.wrap ((u - 1) * g) = (u - 1) * g := IntWalk.i64_in _ (by rw [e2] at k2 ⊢; omega)
  have k1' : ¬ u * g < c := by omega
  have k2' : ¬ c ≤ (u - 1) * g := by omega
  have HN := Lib.hid hn
  clear hn e2 k1
  go_enter Try.func30, Try.ntmps30
  go_wp2_with fail
  go_loopw [5] (fun s wr => ∃ q : Int, s = .int .i64 q ∧ (q = u ∨ q = u - 1) ∧ w = wr) (fun s _ => (u - intOf s).toNat)
  case atStart => exact ⟨c.tdiv g, rfl, HN.out, rfl⟩
  case round =>
    obtain ⟨q, rfl, hq, rfl⟩ := hrel
    rcases hq with rfl | rfl
    · go_wp2_with fail
      go_loopw [5] (fun s wr => s = .int .i64 q ∧ w = wr) (fun _ _ => 0)
      case atStart => exact ⟨rfl, rfl⟩
      case round =>
        obtain ⟨rfl, rfl⟩ := hrel
        go_wp2_with fail
        go_ret
        exact ⟨rfl, rfl⟩
    · have k3 : (u - 1) * g < c := by omega
      go_wp2_with fail
      go_roundw
      case rel => exact ⟨u, by go_num, .inl rfl, trivial⟩
      case measure => simp [intOf]; omega
end Go.Proofs.Ytknagcednppokaa
