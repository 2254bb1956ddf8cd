/- The document's own way to the sum of terms: variable by variable. -/
import Derived.Test.YtnefolkhoeocjaaLinAd
namespace Go.Proofs.Ytnefolkhoeocjaa

/-- The next variable behind L, of the first terms. -/
def nvStep (L v : Int) (m : Int × Int) : Int := if L < m.1 ∧ (v < 0 ∨ m.1 < v) then m.1 else v
def nv (L : Int) (l : List (Int × Int)) : Int := l.foldl (nvStep L) (-1)
theorem nv_snoc (L : Int) (l : List (Int × Int)) (m : Int × Int) : nv L (l ++ [m]) = nvStep L (nv L l) m := by unfold nv; rw [List.foldl_append]; rfl
theorem nv_spec (L : Int) (l : List (Int × Int)) (hV : ∀ m ∈ l, 0 ≤ m.1 ∧ m.1 < 1048576) : ∀ k, k ≤ l.length →
    (nv L (l.take k) = -1 ∧ ∀ m ∈ l.take k, m.1 ≤ L) ∨ (0 ≤ nv L (l.take k) ∧ nv L (l.take k) < 1048576 ∧ L < nv L (l.take k) ∧ ∀ m ∈ l.take k, L < m.1 → nv L (l.take k) ≤ m.1)
  | 0, _ => .inl ⟨by simp [nv], fun m hm => by simp at hm⟩
  | k + 1, hk => by
    have hm := hV (l.getD k (0, 0)) (by rw [List.getD_eq_getElem?_getD, List.getElem?_eq_getElem (by omega)]; simp)
    have ih := nv_spec L l hV k (by omega)
    rw [take_snoc l k (by omega), nv_snoc]
    generalize l.getD k (0, 0) = m at hm
    generalize nv L (l.take k) = v at ih
    unfold nvStep
    by_cases c : L < m.1 ∧ (v < 0 ∨ m.1 < v)
    · rw [if_pos c]
      refine .inr ⟨hm.1, hm.2, c.1, fun x hx hxL => ?_⟩
      rcases List.mem_append.1 hx with hx | hx
      · rcases ih with ⟨_, h2⟩ | ⟨_, _, _, h4⟩
        · have := h2 x hx; omega
        · have := h4 x hx hxL; omega
      · simp at hx; subst hx; exact Int.le_refl _
    · rw [if_neg c]
      rcases ih with ⟨h1, h2⟩ | ⟨h1, h2, h3, h4⟩
      · refine .inl ⟨h1, fun x hx => ?_⟩
        rcases List.mem_append.1 hx with hx | hx
        · exact h2 x hx
        · simp at hx; subst hx; omega
      · refine .inr ⟨h1, h2, h3, fun x hx hxL => ?_⟩
        rcases List.mem_append.1 hx with hx | hx
        · exact h4 x hx hxL
        · simp at hx; subst hx; omega

/-- The part of a sum up to a variable. -/
def upTo (R : List (Int × Int)) (L : Int) : List (Int × Int) := R.filter fun m => decide (m.1 ≤ L)
theorem upTo_up {R : List (Int × Int)} (h : Up R) (L : Int) : Up (upTo R L) := h.filter _
theorem coef_upTo (R : List (Int × Int)) (L v : Int) : coef (upTo R L) v = if v ≤ L then coef R v else 0 := by
  induction R with
  | nil => simp [upTo, coef]
  | cons m r ih =>
    unfold upTo at ih ⊢
    by_cases hm : m.1 ≤ L
    · rw [List.filter_cons_of_pos (by simp [hm]), coef_cons, ih, coef_cons]
      by_cases hv : m.1 = v
      · subst hv; simp [hm]
      · by_cases hvL : v ≤ L <;> simp [hv, hvL]
    · rw [List.filter_cons_of_neg (by simp [hm]), ih, coef_cons]
      by_cases hv : m.1 = v
      · subst hv; simp [hm]
      · simp [hv]
theorem upTo_start {l R : List (Int × Int)} (hR : IsSum l R) (hV : ∀ m ∈ l, 0 ≤ m.1 ∧ m.1 < 1048576) : upTo R (-1) = [] := by
  unfold upTo
  rw [List.filter_eq_nil_iff]
  intro m hm
  obtain ⟨x, hx, hxe⟩ := hR.comes hm
  have := hV x hx
  simp; omega
theorem upTo_end {l R : List (Int × Int)} (hR : IsSum l R) {L : Int} (h : ∀ m ∈ l, m.1 ≤ L) : upTo R L = R := by
  unfold upTo
  rw [List.filter_eq_self]
  intro m hm
  obtain ⟨x, hx, hxe⟩ := hR.comes hm
  have := h x hx
  simp; omega
theorem upTo_step {l R : List (Int × Int)} (hR : IsSum l R) {L v : Int} (hLv : L < v) (h : ∀ m ∈ l, L < m.1 → v ≤ m.1) :
    upTo R v = upTo R L ++ (if coef l v = 0 then [] else [(v, coef l v)]) := by
  have hnz : ∀ m ∈ upTo R v, m.2 ≠ 0 := fun m hm => hR.nz m (List.mem_filter.1 hm).1
  have hnz' : ∀ m ∈ upTo R L ++ (if coef l v = 0 then [] else [(v, coef l v)]), m.2 ≠ 0 := fun m hm => by
    rcases List.mem_append.1 hm with hm | hm
    · exact hR.nz m (List.mem_filter.1 hm).1
    · by_cases e : coef l v = 0
      · rw [if_pos e] at hm; cases hm
      · rw [if_neg e] at hm; simp at hm; subst hm; exact e
  refine sum_unique (upTo_up hR.up v) ?_ hnz hnz' fun u => ?_
  · refine List.pairwise_append.2 ⟨upTo_up hR.up L, ?_, fun a ha b hb => ?_⟩
    · by_cases e : coef l v = 0 <;> simp [e]
    · have ha := (List.mem_filter.1 ha).2
      simp only [decide_eq_true_eq] at ha
      by_cases e : coef l v = 0
      · rw [if_pos e] at hb; cases hb
      · rw [if_neg e] at hb; simp at hb; subst hb; show a.1 < v; omega
  · rw [coef_append, coef_upTo, coef_upTo, hR.eq]
    by_cases hu : u ≤ L
    · have h1 : u ≤ v := by omega
      have h2 : ¬ v = u := by omega
      rw [if_pos h1, if_pos hu]
      by_cases e : coef l v = 0
      · rw [if_pos e, coef_nil]; omega
      · rw [if_neg e, coef_cons, coef_nil, if_neg h2]; omega
    · rw [if_neg hu]
      by_cases huv : u = v
      · subst huv
        rw [if_pos (Int.le_refl _)]
        by_cases e : coef l u = 0
        · rw [if_pos e, coef_nil, e]; rfl
        · rw [if_neg e, coef_cons, coef_nil, if_pos rfl]; omega
      · have h2 : ¬ v = u := by omega
        have h4 : coef (if coef l v = 0 then [] else [(v, coef l v)]) u = 0 := by
          by_cases e : coef l v = 0
          · rw [if_pos e]; rfl
          · rw [if_neg e, coef_cons, coef_nil, if_neg h2]; rfl
        rw [h4]
        by_cases hle : u ≤ v
        · rw [if_pos hle, coef_none (fun x hx hxe => by have := h x hx (by omega); omega)]; omega
        · rw [if_neg hle]; omega

theorem coef_bd (l : List (Int × Int)) (h : Bd 4398046511104 l) (v : Int) : ∀ k, k ≤ l.length → -(k * 4398046511104 : Int) ≤ coef (l.take k) v ∧ coef (l.take k) v ≤ k * 4398046511104
  | 0, _ => by simp [coef]
  | k + 1, hk => by
    have h1 := coef_bd l h v k (by omega)
    have h2 := h (l.getD k (0, 0)) (by rw [List.getD_eq_getElem?_getD, List.getElem?_eq_getElem (by omega)]; simp)
    rw [take_snoc l k (by omega), coef_append, coef_cons, coef_nil]
    split <;> omega

theorem sum_len {l R : List (Int × Int)} (h : IsSum l R) : R.length ≤ l.length := by
  have hA : Asc (l.mergeSort fun a b => decide (a.1 ≤ b.1)) := by
    intro i j hij hj
    have hs := List.pairwise_mergeSort (le := fun a b : Int × Int => decide (a.1 ≤ b.1)) (fun a b c h1 h2 => by simp at *; omega) (fun a b => by simp; omega) l
    have := List.pairwise_iff_getElem.1 hs i j (by omega) hj hij
    simp only [List.getD_eq_getElem?_getD]
    rw [List.getElem?_eq_getElem hj, List.getElem?_eq_getElem (by omega)]
    simpa using this
  rw [h.unique ((tog_isSum _ hA).perm (List.mergeSort_perm _ _))]
  refine Nat.le_trans (List.length_filter_le _ _) ?_
  have := tog_len (l.mergeSort fun a b => decide (a.1 ≤ b.1)) _ (Nat.le_refl _)
  rw [List.take_length] at this
  rwa [List.length_mergeSort] at this

/-- All coefficients up to a variable may be. -/
def okTo (R : List (Int × Int)) (L : Int) : Bool := (upTo R L).all fun m => wi m.2 1073741824
end Go.Proofs.Ytnefolkhoeocjaa
