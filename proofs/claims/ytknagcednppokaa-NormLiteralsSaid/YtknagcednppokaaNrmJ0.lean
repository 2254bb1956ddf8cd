/- What a divided form is. -/
import Derived.Test.YtknagcednppokaaNrmI
import Derived.Test.YtknagcednppokaaLinAd
namespace Go.Proofs.Ytknagcednppokaa
open Go.RowKit

theorem okAt_mkG {l : List (Int × Int)} {i : Nat} (h : lastAt l i < (l.getD i (0, 0)).1 ∧ (l.getD i (0, 0)).2 ≠ 0 ∧ 0 ≤ (l.getD i (0, 0)).1 ∧ (l.getD i (0, 0)).1 < 1048576 ∧ -1073741824 ≤ (l.getD i (0, 0)).2 ∧ (l.getD i (0, 0)).2 ≤ 1073741824) : okAt l i = true := by
  obtain ⟨h1, h2, h3, h4, h5, h6⟩ := h
  unfold okAt chk mst wi
  simp only [Bool.and_eq_true, decide_eq_true_eq]
  exact ⟨h1, h2, ⟨h3, h4⟩, h5, h6⟩
theorem upI_wi {c g : Int} (hc : -1073741824 ≤ c ∧ c ≤ 1073741824) (hg : 1 ≤ g) : -1073741824 ≤ upI c g ∧ upI c g ≤ 1073741824 := by
  have h := tdiv_in (c := c) (g := g) (B := 1073741824) (by omega)
  unfold upI
  split
  · rename_i hm
    have hg2 : 2 ≤ g := by
      by_cases e : g = 1
      · subst e; rw [Int.tmod_one] at hm; omega
      · omega
    have h1 : (c.tdiv g).natAbs = c.natAbs / g.natAbs := Int.natAbs_tdiv c g
    have h2 : c.natAbs / g.natAbs ≤ c.natAbs / 2 := Nat.div_le_div_left (by omega) (by omega)
    omega
  · omega
theorem gAt_dvd (l : List (Int × Int)) : ∀ n j, j < n → gAt l n ∣ (l.getD j (0, 0)).2
  | 0, _, h => absurd h (Nat.not_lt_zero _)
  | n + 1, j, h => by
    have e : gAt l (n + 1) = (Nat.gcd (gAt l n).natAbs (l.getD n (0, 0)).2.natAbs : Nat) := rfl
    rw [e]
    by_cases hj : j = n
    · subst hj
      exact Int.ofNat_dvd_left.2 (Nat.gcd_dvd_right _ _)
    · have ih := gAt_dvd l n j (by omega)
      have h1 : ((Nat.gcd (gAt l n).natAbs (l.getD n (0, 0)).2.natAbs : Nat) : Int) ∣ gAt l n := Int.ofNat_dvd_left.2 (Nat.gcd_dvd_left _ _)
      exact Int.dvd_trans h1 ih
theorem tdiv_ne {k g : Int} (hk : k ≠ 0) (hg : 1 ≤ g) (hd : g ∣ k) : k.tdiv g ≠ 0 := by
  obtain ⟨q, rfl⟩ := hd
  rw [Int.mul_tdiv_cancel_left _ (by omega)]
  intro h
  subst h
  exact hk (Int.mul_zero _)
theorem redL_len (g : Int) (l : List (Int × Int)) : (redL g l).length = l.length := by unfold redL; rw [List.length_map]
theorem redL_last (g : Int) (l : List (Int × Int)) (i : Nat) (h : i < l.length) : lastAt (redL g l) i = lastAt l i := by
  unfold lastAt
  by_cases h0 : i = 0
  · rw [if_pos h0, if_pos h0]
  · rw [if_neg h0, if_neg h0, redL_get g l (i - 1) (by omega)]
/-- A sound form divided is sound. -/
theorem red_snd {c : Int} {l : List (Int × Int)} (hs : snd c l = true) (h0 : 0 < l.length) : snd (upI c (gAt l l.length)) (redL (gAt l l.length) l) = true := by
  obtain ⟨hc, h64, hall⟩ := snd_iff.1 hs
  have hcb : -1073741824 ≤ c ∧ c ≤ 1073741824 := by unfold wi at hc; simpa using hc
  have hg := gAt_pos hs l.length h0 (Nat.le_refl _)
  refine snd_iff.2 ⟨wi_t (upI_wi hcb hg), by rw [redL_len]; exact h64, fun i hi => ?_⟩
  rw [redL_len] at hi
  obtain ⟨h1, h2, h3, h4, h5, h6⟩ := okAt_in (hall i hi)
  have hd := tdiv_ne h2 hg (gAt_dvd l l.length i hi)
  have hb := tdiv_in (c := (l.getD i (0, 0)).2) (g := gAt l l.length) (B := 1073741824) (by omega)
  refine okAt_mkG ?_
  rw [redL_last _ _ _ hi, redL_get _ _ _ hi]
  exact ⟨h1, hd, h3, h4, by omega, by omega⟩
theorem snd_lt {c : Int} {l : List (Int × Int)} (hs : snd c l = true) : ∀ j i, i < j → j < l.length → (l.getD i (0, 0)).1 < (l.getD j (0, 0)).1
  | 0, i, h, _ => absurd h (Nat.not_lt_zero i)
  | j + 1, i, h, hj => by
    have h1 := (okAt_in ((snd_iff.1 hs).2.2 (j + 1) hj)).1
    rw [lastAt_succ] at h1
    by_cases e : i = j
    · rw [e]; exact h1
    · have := snd_lt hs j i (by omega) (by omega)
      omega
theorem snd_Up {c : Int} {l : List (Int × Int)} (hs : snd c l = true) : Up l := by
  refine List.pairwise_iff_getElem.2 fun i j hi hj hij => ?_
  have := snd_lt hs j i hij hj
  rwa [List.getD_eq_getElem?_getD, List.getElem?_eq_getElem hi, List.getD_eq_getElem?_getD, List.getElem?_eq_getElem hj] at this
theorem neg_sum {c : Int} {l : List (Int × Int)} (hs : snd c l = true) : IsSum (scale 1 [] ++ scale (-1) l) (scale (-1) l) := by
  refine ⟨?_, fun m hm => ?_, fun v => by rw [show scale 1 [] = [] from rfl, List.nil_append]⟩
  · exact List.Pairwise.map _ (fun a b h => h) (snd_Up hs)
  · obtain ⟨p, hp, rfl⟩ := List.mem_map.1 hm
    obtain ⟨i, hi, rfl⟩ := List.getElem_of_mem hp
    have := (okAt_in ((snd_iff.1 hs).2.2 i hi)).2.1
    rw [List.getD_eq_getElem?_getD, List.getElem?_eq_getElem hi] at this
    simp only [Option.getD_some] at this
    simp only
    omega
theorem neg_wi {c : Int} {l : List (Int × Int)} (hs : snd c l = true) : ∀ m ∈ scale (-1) l, wi m.2 1073741824 = true := fun m hm => by
  obtain ⟨p, hp, rfl⟩ := List.mem_map.1 hm
  have := (snd_terms hs p hp).2
  exact wi_t (by simp only; omega)
end Go.Proofs.Ytknagcednppokaa
