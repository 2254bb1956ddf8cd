/- Sums of terms, as plain mathematics: the one list that rises, without zeros, whose coefficients are those of a list together. -/
import Derived.Test.YtelndcmfddbgiaaDoorCt29
set_option linter.unusedVariables false
set_option linter.unusedSimpArgs false
namespace Go.Proofs.YtelndcmfddbgiaaDoor

def coef (l : List (Int × Int)) (v : Int) : Int := (l.map fun m => if m.1 = v then m.2 else 0).sum
theorem coef_nil (v : Int) : coef [] v = 0 := rfl
theorem coef_cons (m : Int × Int) (l : List (Int × Int)) (v : Int) : coef (m :: l) v = (if m.1 = v then m.2 else 0) + coef l v := by simp [coef]
theorem coef_append (l r : List (Int × Int)) (v : Int) : coef (l ++ r) v = coef l v + coef r v := by simp [coef, List.sum_append]
theorem coef_perm {l r : List (Int × Int)} (h : l.Perm r) (v : Int) : coef l v = coef r v := by
  induction h with
  | nil => rfl
  | cons x _ ih => rw [coef_cons, coef_cons, ih]
  | swap x y l => simp only [coef_cons]; omega
  | trans _ _ h1 h2 => exact h1.trans h2
theorem coef_none {l : List (Int × Int)} {v : Int} (h : ∀ m ∈ l, m.1 ≠ v) : coef l v = 0 := by
  induction l with
  | nil => rfl
  | cons m r ih => rw [coef_cons, if_neg (h m (by simp)), ih (fun x hx => h x (by simp [hx]))]; rfl

/-- It rises. -/
def Up (l : List (Int × Int)) : Prop := l.Pairwise fun a b => a.1 < b.1
structure IsSum (l R : List (Int × Int)) : Prop where
  up : Up R
  nz : ∀ m ∈ R, m.2 ≠ 0
  eq : ∀ v, coef R v = coef l v

theorem up_head {m : Int × Int} {r : List (Int × Int)} (h : Up (m :: r)) : coef r m.1 = 0 :=
  coef_none fun x hx => by have := (List.pairwise_cons.1 h).1 x hx; omega
theorem sum_unique : ∀ {R S : List (Int × Int)}, Up R → Up S → (∀ m ∈ R, m.2 ≠ 0) → (∀ m ∈ S, m.2 ≠ 0) → (∀ v, coef R v = coef S v) → R = S
  | [], [], _, _, _, _, _ => rfl
  | [], b :: s, _, hS, _, nS, h => by
    have := h b.1
    rw [coef_nil, coef_cons, if_pos rfl, up_head hS] at this
    have := nS b (by simp)
    omega
  | a :: r, [], hR, _, nR, _, h => by
    have := h a.1
    rw [coef_nil, coef_cons, if_pos rfl, up_head hR] at this
    have := nR a (by simp)
    omega
  | a :: r, b :: s, hR, hS, nR, nS, h => by
    have na := nR a (by simp)
    have nb := nS b (by simp)
    have hr := List.pairwise_cons.1 hR
    have hs := List.pairwise_cons.1 hS
    have e1 : a.1 = b.1 := by
      by_cases hlt : a.1 < b.1
      · have := h a.1
        rw [coef_cons, if_pos rfl, up_head hR, coef_cons, if_neg (by omega), coef_none (fun x hx => by have := hs.1 x hx; omega)] at this
        omega
      · by_cases hgt : b.1 < a.1
        · have := h b.1
          rw [coef_cons, if_neg (by omega), coef_none (fun x hx => by have := hr.1 x hx; omega), coef_cons, if_pos rfl, up_head hS] at this
          omega
        · omega
    have e2 : a.2 = b.2 := by
      have := h a.1
      rw [coef_cons, if_pos rfl, up_head hR, coef_cons, if_pos e1.symm, e1, up_head hS] at this
      omega
    have e : a = b := Prod.ext e1 e2
    subst e
    rw [sum_unique hr.2 hs.2 (fun x hx => nR x (by simp [hx])) (fun x hx => nS x (by simp [hx])) (fun v => by
      have := h v
      rw [coef_cons, coef_cons] at this
      omega)]
theorem IsSum.unique {l R S : List (Int × Int)} (h : IsSum l R) (k : IsSum l S) : R = S := sum_unique h.up k.up h.nz k.nz fun v => (h.eq v).trans (k.eq v).symm
theorem IsSum.perm {l l' R : List (Int × Int)} (h : IsSum l R) (hp : l.Perm l') : IsSum l' R := ⟨h.up, h.nz, fun v => (h.eq v).trans (coef_perm hp v)⟩
theorem coef_up {R : List (Int × Int)} (h : Up R) {m : Int × Int} (hm : m ∈ R) : coef R m.1 = m.2 := by
  induction R with
  | nil => cases hm
  | cons a r ih =>
    rcases List.mem_cons.1 hm with rfl | hm
    · rw [coef_cons, if_pos rfl, up_head h]; omega
    · have hr := List.pairwise_cons.1 h
      rw [coef_cons, if_neg (by have := hr.1 m hm; omega), ih hr.2 hm]; omega
theorem IsSum.comes {l R : List (Int × Int)} (h : IsSum l R) {m : Int × Int} (hm : m ∈ R) : ∃ x ∈ l, x.1 = m.1 := by
  by_cases hx : ∃ x ∈ l, x.1 = m.1
  · exact hx
  · have h1 := coef_up h.up hm
    rw [h.eq, coef_none (fun x hx1 hx2 => hx ⟨x, hx1, hx2⟩)] at h1
    exact absurd h1.symm (h.nz m hm)

/-- One step of putting together. -/
theorem togStep_up {r : List (Int × Int)} {m : Int × Int} (h : Up r) (hle : ∀ p ∈ r, p.1 ≤ m.1) :
    Up (togStep r m) ∧ (∀ p ∈ togStep r m, p.1 ≤ m.1) ∧ ∀ v, coef (togStep r m) v = coef r v + (if m.1 = v then m.2 else 0) := by
  obtain ⟨mv, mk⟩ := m
  rcases snoc_cases r with rfl | ⟨r', ⟨pv, pk⟩, rfl⟩
  · refine ⟨by rw [togStep_nil]; simp [Up], fun p hp => ?_, fun v => ?_⟩
    · rw [togStep_nil] at hp; simp at hp; subst hp; exact Int.le_refl _
    · rw [togStep_nil, coef_cons, coef_nil]; omega
  · have hp := hle (pv, pk) (by simp)
    have hpair := List.pairwise_append.1 h
    by_cases e : pv = mv
    · subst e
      rw [togStep_eq]
      refine ⟨List.pairwise_append.2 ⟨hpair.1, by simp, fun a ha b hb => ?_⟩, fun p hp => ?_, fun v => ?_⟩
      · simp at hb; subst hb; exact hpair.2.2 a ha (pv, pk) (by simp)
      · rcases List.mem_append.1 hp with hp | hp
        · exact hle p (by simp [hp])
        · simp at hp; subst hp; exact Int.le_refl _
      · rw [coef_append, coef_append, coef_cons, coef_cons, coef_nil]
        by_cases hv : pv = v <;> simp [hv] <;> omega
    · rw [togStep_ne _ _ _ e]
      refine ⟨List.pairwise_append.2 ⟨h, by simp, fun a ha b hb => ?_⟩, fun p hp => ?_, fun v => ?_⟩
      · simp at hb; subst hb
        rcases List.mem_append.1 ha with ha | ha
        · have := hpair.2.2 a ha (pv, pk) (by simp); simp only at this hp ⊢; omega
        · simp at ha; subst ha; simp only at hp ⊢; omega
      · rcases List.mem_append.1 hp with hp | hp
        · exact hle p hp
        · simp at hp; subst hp; exact Int.le_refl _
      · rw [coef_append, coef_cons, coef_nil]; omega

/-- It doesn't fall. -/
def Asc (l : List (Int × Int)) : Prop := ∀ i j, i < j → j < l.length → (l.getD i (0, 0)).1 ≤ (l.getD j (0, 0)).1

theorem tog_up (l : List (Int × Int)) (h : Asc l) : ∀ k, k ≤ l.length → Up (tog (l.take k)) ∧ (∀ p ∈ tog (l.take k), ∀ j, k ≤ j → j < l.length → p.1 ≤ (l.getD j (0, 0)).1) ∧ ∀ v, coef (tog (l.take k)) v = coef (l.take k) v
  | 0, _ => ⟨by simp [tog, Up], fun p hp => by simp [tog] at hp, fun v => by simp [tog]⟩
  | k + 1, hk => by
    obtain ⟨h1, h2, h3⟩ := tog_up l h k (by omega)
    obtain ⟨g1, g2, g3⟩ := togStep_up (m := l.getD k (0, 0)) h1 (fun p hp => h2 p hp k (Nat.le_refl _) (by omega))
    rw [take_snoc l k (by omega), tog_snoc]
    refine ⟨g1, fun p hp j hj hjl => ?_, fun v => ?_⟩
    · exact Int.le_trans (g2 p hp) (h k j (by omega) hjl)
    · rw [g3, coef_append, h3, coef_cons, coef_nil]; omega

theorem coef_filter (l : List (Int × Int)) (v : Int) : coef (l.filter fun m => m.2 != 0) v = coef l v := by
  induction l with
  | nil => rfl
  | cons m r ih =>
    by_cases h : m.2 = 0
    · rw [List.filter_cons_of_neg (by simp [h]), ih, coef_cons]; simp [h]
    · rw [List.filter_cons_of_pos (by simp [h]), coef_cons, coef_cons, ih]
theorem tog_isSum (l : List (Int × Int)) (h : Asc l) : IsSum l ((tog l).filter fun m => m.2 != 0) := by
  have := tog_up l h l.length (Nat.le_refl _)
  rw [List.take_length] at this
  exact ⟨this.1.filter _, fun m hm => by have := (List.mem_filter.1 hm).2; simpa using this, fun v => (coef_filter _ v).trans (this.2.2 v)⟩

theorem exists_sum (l : List (Int × Int)) : ∃ R, IsSum l R := by
  refine ⟨_, (tog_isSum (l.mergeSort fun a b => decide (a.1 ≤ b.1)) ?_).perm (List.mergeSort_perm _ _)⟩
  intro i j hij hj
  have hs := List.pairwise_mergeSort (le := fun a b : Int × Int => decide (a.1 ≤ b.1)) (fun a b c h1 h2 => by simp at *; omega) (fun a b => by simp; omega) l
  have := List.pairwise_iff_getElem.1 hs i j (by omega) hj hij
  simp only [List.getD_eq_getElem?_getD]
  rw [List.getElem?_eq_getElem hj, List.getElem?_eq_getElem (by omega)]
  simpa using this
end Go.Proofs.YtelndcmfddbgiaaDoor
