/- What symmerge stands on: no walk. -/
import Derived.Test.YteiomafciignkaaHepY
set_option linter.unusedVariables false
set_option linter.unusedSimpArgs false
namespace Go.Proofs.Yteiomafciignkaa
set_option maxRecDepth 100000
open Go.RowKit

theorem seg_le {xs : List HC} {a b u v : Nat} (h : SortedSeg xs a b) (h1 : a ≤ u) (h2 : u ≤ v) (h3 : v < b) : le (at' xs u) (at' xs v) := by
  by_cases e : u = v
  · subst e; exact le_refl _
  · exact h u v h1 (by omega) h3
theorem rotI_out {s m e k : Nat} (h : k < s ∨ e ≤ k) : rotI s m e k = k := by unfold rotI; rw [if_pos h]
theorem rotI_lo {s m e k : Nat} (h : s ≤ k) (h1 : k < s + (e - m)) (h2 : s ≤ m) (h3 : m ≤ e) : rotI s m e k = k + (m - s) := by unfold rotI; rw [if_neg (by omega), if_pos h1]
theorem rotI_hi {s m e k : Nat} (h : s + (e - m) ≤ k) (h1 : k < e) : rotI s m e k = k - (e - m) := by unfold rotI; rw [if_neg (by omega), if_neg (by omega)]
/-- One element goes right. -/
theorem one_right {xs ys : List HC} {a b i : Nat} (hs : SortedSeg xs (a + 1) b) (hi : a + 1 ≤ i) (hib : i ≤ b) (hlo : a + 1 < i → le (at' xs (i - 1)) (at' xs a)) (hhi : i < b → le (at' xs a) (at' xs i)) (hm : Mov xs ys (rotI a (a + 1) i)) : SortedSeg ys a b := fun p q h1 h2 h3 => by
  rw [hm p, hm q]
  by_cases hq : i ≤ q
  · rw [rotI_out (k := q) (.inr hq)]
    by_cases hp : i ≤ p
    · rw [rotI_out (k := p) (.inr hp)]; exact hs p q (by omega) h2 h3
    · by_cases hp1 : p + 1 = i
      · rw [rotI_hi (k := p) (by omega) (by omega), show p - (i - (a + 1)) = a by omega]
        exact le_trans (hhi (by omega)) (seg_le hs hi hq h3)
      · rw [rotI_lo (k := p) h1 (by omega) (by omega) hi]
        exact seg_le hs (by omega) (by omega) h3
  · by_cases hq1 : q + 1 = i
    · rw [rotI_hi (k := q) (by omega) (by omega), show q - (i - (a + 1)) = a by omega, rotI_lo (k := p) h1 (by omega) (by omega) hi]
      exact le_trans (seg_le hs (u := p + (a + 1 - a)) (v := i - 1) (by omega) (by omega) (by omega)) (hlo (by omega))
    · rw [rotI_lo (k := q) (by omega) (by omega) (by omega) hi, rotI_lo (k := p) h1 (by omega) (by omega) hi]
      exact seg_le hs (by omega) (by omega) (by omega)
/-- One element goes left. -/
theorem one_left {xs ys : List HC} {a m i : Nat} (hs : SortedSeg xs a m) (hi : a ≤ i) (him : i ≤ m) (hlo : a < i → le (at' xs (i - 1)) (at' xs m)) (hhi : i < m → le (at' xs m) (at' xs i)) (hm : Mov xs ys (rotI i m (m + 1))) : SortedSeg ys a (m + 1) := fun p q h1 h2 h3 => by
  rw [hm p, hm q]
  by_cases hp : p < i
  · rw [rotI_out (k := p) (.inl hp)]
    by_cases hq : q < i
    · rw [rotI_out (k := q) (.inl hq)]; exact hs p q h1 h2 (by omega)
    · by_cases hq1 : q = i
      · rw [rotI_lo (k := q) (by omega) (by omega) him (by omega), show q + (m - i) = m by omega]
        exact le_trans (seg_le hs (u := p) (v := i - 1) h1 (by omega) (by omega)) (hlo (by omega))
      · rw [rotI_hi (k := q) (by omega) (by omega)]
        exact seg_le hs h1 (by omega) (by omega)
  · by_cases hp1 : p = i
    · rw [rotI_lo (k := p) (by omega) (by omega) him (by omega), show p + (m - i) = m by omega, rotI_hi (k := q) (by omega) (by omega)]
      exact le_trans (hhi (by omega)) (seg_le hs hi (by omega) (by omega))
    · rw [rotI_hi (k := p) (by omega) (by omega), rotI_hi (k := q) (by omega) (by omega)]
      exact seg_le hs (by omega) (by omega) (by omega)
/-- What the rotation leaves. -/
structure Cross (ys : List HC) (a s mid e b : Nat) : Prop where
  s1 : SortedSeg ys a s
  s2 : SortedSeg ys s mid
  s3 : SortedSeg ys mid e
  s4 : SortedSeg ys e b
  cr : ∀ p q, a ≤ p → p < mid → mid ≤ q → q < b → le (at' ys p) (at' ys q)
theorem cross_of {xs ys : List HC} {a s m e b : Nat} (h1 : SortedSeg xs a m) (h2 : SortedSeg xs m b) (has : a ≤ s) (hsm : s ≤ m) (hme : m ≤ e) (heb : e ≤ b) (c1 : a < s → e < b → le (at' xs (s - 1)) (at' xs e)) (c2 : s < m → m < e → le (at' xs (e - 1)) (at' xs s)) (hm : Mov xs ys (rotI s m e)) : Cross ys a s (s + (e - m)) e b := by
  refine ⟨fun p q i1 i2 i3 => ?_, fun p q i1 i2 i3 => ?_, fun p q i1 i2 i3 => ?_, fun p q i1 i2 i3 => ?_, fun p q i1 i2 i3 i4 => ?_⟩
  · rw [hm p, hm q, rotI_out (.inl (by omega)), rotI_out (.inl i3)]; exact h1 p q i1 i2 (by omega)
  · rw [hm p, hm q, rotI_lo i1 (by omega) hsm hme, rotI_lo (by omega) i3 hsm hme]; exact h2 _ _ (by omega) (by omega) (by omega)
  · rw [hm p, hm q, rotI_hi i1 (by omega), rotI_hi (by omega) i3]; exact h1 _ _ (by omega) (by omega) (by omega)
  · rw [hm p, hm q, rotI_out (.inr i1), rotI_out (.inr (by omega))]; exact h2 p q (by omega) i2 i3
  · rw [hm p, hm q]
    by_cases hp : p < s
    · rw [rotI_out (k := p) (.inl hp)]
      by_cases hq : q < e
      · rw [rotI_hi (k := q) i3 hq]; exact seg_le h1 i1 (by omega) (by omega)
      · rw [rotI_out (k := q) (.inr (by omega))]
        exact le_trans (seg_le h1 (u := p) (v := s - 1) i1 (by omega) (by omega)) (le_trans (c1 (by omega) (by omega)) (seg_le h2 (u := e) (v := q) hme (by omega) i4))
    · rw [rotI_lo (k := p) (by omega) i2 hsm hme]
      by_cases hq : q < e
      · rw [rotI_hi (k := q) i3 hq]
        exact le_trans (seg_le h2 (u := p + (m - s)) (v := e - 1) (by omega) (by omega) (by omega)) (le_trans (c2 (by omega) (by omega)) (seg_le h1 (u := s) (v := q - (e - m)) has (by omega) (by omega)))
      · rw [rotI_out (k := q) (.inr (by omega))]; exact seg_le h2 (by omega) (by omega) i4
theorem Mov.none {xs : List HC} {s m e : Nat} (h : s = m ∨ e = m) (hsm : s ≤ m) (hme : m ≤ e) : Mov xs xs (rotI s m e) := fun t => by
  congr 1
  unfold rotI
  repeat' split
  all_goals omega
theorem Cross.lo {ys : List HC} {a s mid e b : Nat} (h : Cross ys a s mid e b) (hn : ¬ (a < s ∧ s < mid)) (h1 : a ≤ s) (h2 : s ≤ mid) : SortedSeg ys a mid := by
  by_cases e1 : s = a
  · have := h.s2; rw [e1] at this; exact this
  · obtain rfl : s = mid := by omega
    exact h.s1
theorem Cross.hi {ys : List HC} {a s mid e b : Nat} (h : Cross ys a s mid e b) (hn : ¬ (mid < e ∧ e < b)) (h1 : mid ≤ e) (h2 : e ≤ b) : SortedSeg ys mid b := by
  by_cases e1 : e = b
  · have := h.s3; rw [e1] at this; exact this
  · obtain rfl : e = mid := by omega
    exact h.s4
theorem SortedSeg.seg {xs ys : List HC} {a b c d : Nat} (h : SortedSeg xs a b) (hs : Seg xs ys c d) (hd : b ≤ c ∨ d ≤ a) : SortedSeg ys a b := fun p q h1 h2 h3 => by
  rw [hs.out p (by omega), hs.out q (by omega)]; exact h p q h1 h2 h3
theorem merged {ys z1 z2 : List HC} {a mid b : Nat} (hc : ∀ p q, a ≤ p → p < mid → mid ≤ q → q < b → le (at' ys p) (at' ys q)) (h1 : Seg ys z1 a mid) (h2 : Seg z1 z2 mid b) (k1 : SortedSeg z1 a mid) (k2 : SortedSeg z2 mid b) : SortedSeg z2 a b := fun p q i1 i2 i3 => by
  by_cases hq : q < mid
  · rw [h2.out p (.inl (by omega)), h2.out q (.inl hq)]; exact k1 p q i1 i2 hq
  · by_cases hp : mid ≤ p
    · exact k2 p q hp i2 i3
    · obtain ⟨p', p1, p2, p3⟩ := h1.inn p i1 (by omega)
      obtain ⟨q', q1, q2, q3⟩ := h2.inn q (by omega) i3
      rw [h2.out p (.inl (by omega)), p3, q3, h1.out q' (.inr q1)]
      exact hc p' q' p1 p2 q1 q2
theorem Mov.stepR {xs zs : List HC} {a k : Nat} (h : Mov xs zs (rotI a (a + 1) (k + 1))) (hak : a ≤ k) (hl : k + 1 < zs.length) : Mov xs (swp zs k (k + 1)) (rotI a (a + 1) (k + 1 + 1)) := fun t => by
  rw [swp_at (by omega) hl]
  repeat' split
  all_goals
    first
      | rw [h k]
      | rw [h (k + 1)]
      | rw [h t]
    congr 1
    unfold rotI
    repeat' split
    all_goals omega
theorem Mov.stepL {xs zs : List HC} {m k : Nat} (h : Mov xs zs (rotI (k + 1) m (m + 1))) (hak : k + 1 ≤ m) (hl : m < zs.length) : Mov xs (swp zs (k + 1) k) (rotI k m (m + 1)) := fun t => by
  rw [swp_at (by omega) (by omega)]
  repeat' split
  all_goals
    first
      | rw [h (k + 1)]
      | rw [h k]
      | rw [h t]
    congr 1
    unfold rotI
    repeat' split
    all_goals omega
end Go.Proofs.Yteiomafciignkaa
