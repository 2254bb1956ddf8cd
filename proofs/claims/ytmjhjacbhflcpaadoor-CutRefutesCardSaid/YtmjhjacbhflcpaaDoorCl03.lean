/- Lists of terms that the call itself makes: slices.Clone, lin.drop. lin.together: neighbours of one variable become one term. Sums of terms, as plain mathematics: the one list that rises, without zeros, whose coefficients are those of a list together. cut.sum: a map of the sums. -/
import Derived.Test.YtmjhjacbhflcpaaDoorCl02
import Derived.RegionTactic
import Derived.ChangeAlike
import Derived.Lib.SmallJoins
import Derived.StillTailTactics
import Derived.Maps.Own
import Derived.Maps.OwnOps
import Derived.Maps.Views
set_option linter.unusedVariables false
set_option linter.unusedSimpArgs false
namespace Go.Proofs.YtmjhjacbhflcpaaDoor
open Go.RowKit

/-- The cells of a list of terms. -/
def flat (l : List (Int × Int)) : List Value := l.flatMap fun m => [.int .i64 m.1, .int .i64 m.2]
theorem flat_len (l : List (Int × Int)) : (flat l).length = l.length * 2 := by
  induction l with
  | nil => rfl
  | cons a r ih => simp [flat] at ih ⊢; omega
theorem flat_append (l r : List (Int × Int)) : flat (l ++ r) = flat l ++ flat r := by simp [flat]
theorem flat_one (v k : Int) : flat [(v, k)] = [.int .i64 v, .int .i64 k] := rfl
theorem flat_get : ∀ (l : List (Int × Int)) (i : Nat), i < l.length → (flat l)[i * 2]? = some (.int .i64 (l.getD i (0, 0)).1) ∧ (flat l)[i * 2 + 1]? = some (.int .i64 (l.getD i (0, 0)).2)
  | a :: r, 0, _ => ⟨rfl, rfl⟩
  | a :: r, i + 1, h => by
    have := flat_get r i (by simpa using h)
    have e : flat (a :: r) = .int .i64 a.1 :: .int .i64 a.2 :: flat r := rfl
    rw [e, show (i + 1) * 2 = i * 2 + 1 + 1 by omega]
    simpa using this

/-- A result that is a list of the call's own. -/
def Row (B : Nat) (l : List (Int × Int)) (v : Value) (w : World) : Prop := w.ownsRow B 46 2 v l.length (flat l)

theorem Row.lies {B : Nat} {l : List (Int × Int)} {v : Value} {w : World} (h : Row B l v w) : ∃ a cap, v = .slice a l.length cap ∧ Lies w.heap.size w a l ∧ (a = none → l.length = 0 ∧ cap = 0) := by
  have hc := fun g => World.ownsRow.cells h (g := g)
  have hlt := World.ownsRow.lt h
  obtain ⟨_, h1 | ⟨g, cap, cur, hv, h2⟩⟩ := h
  · refine ⟨none, 0, by rw [h1.1, h1.2], fun i hi => by omega, fun _ => ⟨h1.2, rfl⟩⟩
  · subst hv
    refine ⟨some ⟨g, 0, none⟩, cap, rfl, fun i hi => ⟨g, 0, rfl, (hlt g rfl).2, ?_, ?_⟩, fun e => by cases e⟩
    · have := hc g rfl (i * 2) _ (flat_get l i hi).1
      rwa [show (⟨g, 0, none⟩ : Addr).add (i * 2) = ⟨g, 0 + i * 2, none⟩ by unfold Addr.add; split <;> simp_all] at this
    · have := hc g rfl (i * 2 + 1) _ (flat_get l i hi).2
      rwa [show (⟨g, 0, none⟩ : Addr).add (i * 2 + 1) = ⟨g, 0 + i * 2 + 1, none⟩ by unfold Addr.add; simp] at this

theorem Tryd.infoMono : (Tryd.prog.info? 46).map (fun i => (i.zero, i.size, i.bytes)) = some (some (.agg #[.int .i64 0, .int .i64 0]), 2, 16) := by kernel_rfl

/-- The cells of a list that lies in memory, one behind the other. -/
theorem Lies.news {B : Nat} {w : World} {a : Addr} {l : List (Int × Int)} (h : Lies B w (some a) l) : ∀ j u, (flat l)[j]? = some u → w.cell? (a.add j) = some u := by
  intro j u hj
  have hjl : j < l.length * 2 := by rw [← flat_len]; exact (List.getElem?_eq_some_iff.1 hj).1
  obtain ⟨b, off, ha, _, h1, h2⟩ := h (j / 2) (by omega)
  injection ha with ha
  subst ha
  have hg := flat_get l (j / 2) (by omega)
  rcases Nat.mod_two_eq_zero_or_one j with hm | hm
  · have e : j / 2 * 2 = j := by omega
    rw [e] at hg h1
    rw [hg.1] at hj
    injection hj with hj
    subst hj
    unfold Addr.add
    split
    · rename_i h0; subst h0; simpa using h1
    · exact h1
  · have e : j / 2 * 2 + 1 = j := by omega
    rw [Nat.add_assoc, e] at h2
    rw [e] at hg
    rw [hg.2] at hj
    injection hj with hj
    subst hj
    unfold Addr.add
    rw [if_neg (by omega)]
    exact h2
theorem flat_cells (l : List (Int × Int)) : ∀ u ∈ flat l, u.oneCell' = true := by
  intro u hu
  simp only [flat, List.mem_flatMap] at hu
  obtain ⟨m, _, hm⟩ := hu
  simp at hm
  rcases hm with rfl | rfl <;> rfl

def RowEnd (B : Nat) (l : List (Int × Int)) (w : World) (e : Ending) (w' : World) : Prop := ∃ v, e = .returned v ∧ Row B l v w' ∧ Below B w w'

theorem take_snoc (l : List (Int × Int)) (k : Nat) (h : k < l.length) : l.take (k + 1) = l.take k ++ [l.getD k (0, 0)] := by
  rw [List.take_succ_eq_append_getElem h]
  simp [List.getD_eq_getElem?_getD, h]

theorem Row.alloc {B : Nat} {l : List (Int × Int)} {v : Value} {w : World} (h : Row B l v w) (o : Obj) : Row B l v (w.alloc o) := World.ownsRow.alloc h o

/-- A new block of a term's two cells. -/
theorem cell_two_new' (w : World) (x y : Value) (t : TypeId) : ∀ j u, [x, y][j]? = some u → (w.alloc (.cells #[x, y] t)).cell? ((⟨w.heap.size, 0, none⟩ : Addr).add j) = some u := by
  intro j u hj
  match j, hj with
  | 0, hj => simp at hj; subst hj; simp [Addr.add]
  | 1, hj => simp at hj; subst hj; simp [Addr.add]

end Go.Proofs.YtmjhjacbhflcpaaDoor

namespace Go.Proofs.YtmjhjacbhflcpaaDoor
open Go.RowKit

def togStep (r : List (Int × Int)) (m : Int × Int) : List (Int × Int) :=
  match r.getLast? with
  | some p => if p.1 = m.1 then r.dropLast ++ [(p.1, p.2 + m.2)] else r ++ [m]
  | none => r ++ [m]
theorem togStep_nil (m : Int × Int) : togStep [] m = [m] := rfl
theorem togStep_eq (r : List (Int × Int)) (v k u : Int) : togStep (r ++ [(v, k)]) (v, u) = r ++ [(v, k + u)] := by
  unfold togStep; simp
theorem togStep_ne (r : List (Int × Int)) (p : Int × Int) (m : Int × Int) (h : p.1 ≠ m.1) : togStep (r ++ [p]) m = (r ++ [p]) ++ [m] := by
  unfold togStep; simp [h]
def tog (l : List (Int × Int)) : List (Int × Int) := l.foldl togStep []
theorem tog_snoc (l : List (Int × Int)) (m : Int × Int) : tog (l ++ [m]) = togStep (tog l) m := by unfold tog; rw [List.foldl_append]; rfl

theorem snoc_cases {α : Type} (r : List α) : r = [] ∨ ∃ r' p, r = r' ++ [p] := by
  rcases List.eq_nil_or_concat r with h | ⟨a, b, h⟩
  · exact .inl h
  · exact .inr ⟨a, b, by rw [h, List.concat_eq_append]⟩

/-- All coefficients are from -M to M. -/
def Bd (M : Int) (l : List (Int × Int)) : Prop := ∀ m ∈ l, -M ≤ m.2 ∧ m.2 ≤ M
theorem Bd.step {M B : Int} {r : List (Int × Int)} {m : Int × Int} (h : Bd M r) (hM : 0 ≤ M) (hB : -B ≤ m.2 ∧ m.2 ≤ B) : Bd (M + B) (togStep r m) := by
  obtain ⟨v, u⟩ := m
  rcases snoc_cases r with rfl | ⟨r', ⟨pv, pk⟩, rfl⟩
  · rw [togStep_nil]; intro x hx; simp at hx; subst hx; simp only at hB ⊢; omega
  · have hp := h (pv, pk) (by simp)
    by_cases e : pv = v
    · subst e
      rw [togStep_eq]
      intro x hx
      rcases List.mem_append.1 hx with hx | hx
      · have := h x (by simp [hx]); simp only at hB; omega
      · simp at hx; subst hx; simp only at hB hp ⊢; omega
    · rw [togStep_ne _ _ _ e]
      intro x hx
      rcases List.mem_append.1 hx with hx | hx
      · have := h x hx; simp only at hB; omega
      · simp at hx; subst hx; simp only at hB ⊢; omega
theorem tog_bd (B : Int) (hB : 0 ≤ B) (l : List (Int × Int)) (h : Bd B l) : ∀ k, k ≤ l.length → Bd (k * B) (tog (l.take k))
  | 0, _ => by intro m hm; simp [tog] at hm
  | k + 1, hk => by
    rw [take_snoc l k (by omega), tog_snoc]
    have h1 := tog_bd B hB l h k (by omega)
    have h2 := h (l.getD k (0, 0)) (by rw [List.getD_eq_getElem?_getD, List.getElem?_eq_getElem (by omega)]; simp)
    have := h1.step (Int.mul_nonneg (by omega) hB) h2
    rwa [show ((k + 1 : Nat) : Int) * B = k * B + B by rw [Int.natCast_add, Int.add_mul]; simp]
theorem tog_len (l : List (Int × Int)) : ∀ k, k ≤ l.length → (tog (l.take k)).length ≤ k
  | 0, _ => by simp [tog]
  | k + 1, hk => by
    have h1 := tog_len l k (by omega)
    rw [take_snoc l k (by omega), tog_snoc]
    generalize tog (l.take k) = r at h1
    generalize l.getD k (0, 0) = m
    obtain ⟨v, u⟩ := m
    rcases snoc_cases r with rfl | ⟨r', ⟨pv, pk⟩, rfl⟩
    · simp [togStep_nil]
    · simp at h1
      by_cases e : pv = v
      · subst e; rw [togStep_eq]; simp; omega
      · rw [togStep_ne _ _ _ e]; simp; omega

theorem flat_last (r : List (Int × Int)) (v k : Int) : (flat (r ++ [(v, k)]))[r.length * 2]? = some (.int .i64 v) ∧ (flat (r ++ [(v, k)]))[r.length * 2 + 1]? = some (.int .i64 k) := by
  have := flat_get (r ++ [(v, k)]) r.length (by simp)
  simpa using this
theorem flat_set (r : List (Int × Int)) (v k x : Int) : (flat (r ++ [(v, k)])).set (r.length * 2 + 1) (.int .i64 x) = flat (r ++ [(v, x)]) := by
  rw [flat_append, flat_append, List.set_append_right _ _ (by rw [flat_len]; omega), flat_len, show r.length * 2 + 1 - r.length * 2 = 1 by omega]
  rfl

theorem two_at' (w : World) (o : Obj) (q : Nat) (x y : Value) (t : TypeId) : ∀ j u, [x, y][j]? = some u → (((w.alloc o).drewN q).alloc (.cells #[x, y] t)).cell? ((⟨w.heap.size + 1, 0, none⟩ : Addr).add j) = some u := by
  intro j u hj
  have h := cell_two_new' ((w.alloc o).drewN q) x y t j u hj
  have e : ((w.alloc o).drewN q).heap.size = w.heap.size + 1 := by
    show (w.alloc o).heap.size = _
    simp
  rwa [e] at h
theorem ownsRow_drewN {w : World} {base : Nat} {e : TypeId} {size : Nat} {v : Value} {n : Nat} {xs : List Value} (h : w.ownsRow base e size v n xs) (k : Nat) : (w.drewN k).ownsRow base e size v n xs := h

end Go.Proofs.YtmjhjacbhflcpaaDoor

namespace Go.Proofs.YtmjhjacbhflcpaaDoor

def coef (l : List (Int × Int)) (v : Int) : Int := (l.map fun m => if m.1 = v then m.2 else 0).sum
theorem coef_nil (v : Int) : coef [] v = 0 := rfl
theorem coef_cons (m : Int × Int) (l : List (Int × Int)) (v : Int) : coef (m :: l) v = (if m.1 = v then m.2 else 0) + coef l v := by simp [coef]
theorem coef_append (l r : List (Int × Int)) (v : Int) : coef (l ++ r) v = coef l v + coef r v := by simp [coef, List.sum_append]
theorem coef_perm {l r : List (Int × Int)} (h : l.Perm r) (v : Int) : coef l v = coef r v := by
  induction h with
  | nil => rfl
  | cons x _ ih => rw [coef_cons, coef_cons, ih]
  | swap x y l => simp only [coef_cons]; omega
  | trans _ _ h1 h2 => exact h1.trans h2
theorem coef_none {l : List (Int × Int)} {v : Int} (h : ∀ m ∈ l, m.1 ≠ v) : coef l v = 0 := by
  induction l with
  | nil => rfl
  | cons m r ih => rw [coef_cons, if_neg (h m (by simp)), ih (fun x hx => h x (by simp [hx]))]; rfl

/-- It rises. -/
def Up (l : List (Int × Int)) : Prop := l.Pairwise fun a b => a.1 < b.1
structure IsSum (l R : List (Int × Int)) : Prop where
  up : Up R
  nz : ∀ m ∈ R, m.2 ≠ 0
  eq : ∀ v, coef R v = coef l v

theorem up_head {m : Int × Int} {r : List (Int × Int)} (h : Up (m :: r)) : coef r m.1 = 0 :=
  coef_none fun x hx => by have := (List.pairwise_cons.1 h).1 x hx; omega
theorem sum_unique : ∀ {R S : List (Int × Int)}, Up R → Up S → (∀ m ∈ R, m.2 ≠ 0) → (∀ m ∈ S, m.2 ≠ 0) → (∀ v, coef R v = coef S v) → R = S
  | [], [], _, _, _, _, _ => rfl
  | [], b :: s, _, hS, _, nS, h => by
    have := h b.1
    rw [coef_nil, coef_cons, if_pos rfl, up_head hS] at this
    have := nS b (by simp)
    omega
  | a :: r, [], hR, _, nR, _, h => by
    have := h a.1
    rw [coef_nil, coef_cons, if_pos rfl, up_head hR] at this
    have := nR a (by simp)
    omega
  | a :: r, b :: s, hR, hS, nR, nS, h => by
    have na := nR a (by simp)
    have nb := nS b (by simp)
    have hr := List.pairwise_cons.1 hR
    have hs := List.pairwise_cons.1 hS
    have e1 : a.1 = b.1 := by
      by_cases hlt : a.1 < b.1
      · have := h a.1
        rw [coef_cons, if_pos rfl, up_head hR, coef_cons, if_neg (by omega), coef_none (fun x hx => by have := hs.1 x hx; omega)] at this
        omega
      · by_cases hgt : b.1 < a.1
        · have := h b.1
          rw [coef_cons, if_neg (by omega), coef_none (fun x hx => by have := hr.1 x hx; omega), coef_cons, if_pos rfl, up_head hS] at this
          omega
        · omega
    have e2 : a.2 = b.2 := by
      have := h a.1
      rw [coef_cons, if_pos rfl, up_head hR, coef_cons, if_pos e1.symm, e1, up_head hS] at this
      omega
    have e : a = b := Prod.ext e1 e2
    subst e
    rw [sum_unique hr.2 hs.2 (fun x hx => nR x (by simp [hx])) (fun x hx => nS x (by simp [hx])) (fun v => by
      have := h v
      rw [coef_cons, coef_cons] at this
      omega)]
theorem IsSum.unique {l R S : List (Int × Int)} (h : IsSum l R) (k : IsSum l S) : R = S := sum_unique h.up k.up h.nz k.nz fun v => (h.eq v).trans (k.eq v).symm
theorem IsSum.perm {l l' R : List (Int × Int)} (h : IsSum l R) (hp : l.Perm l') : IsSum l' R := ⟨h.up, h.nz, fun v => (h.eq v).trans (coef_perm hp v)⟩
theorem coef_up {R : List (Int × Int)} (h : Up R) {m : Int × Int} (hm : m ∈ R) : coef R m.1 = m.2 := by
  induction R with
  | nil => cases hm
  | cons a r ih =>
    rcases List.mem_cons.1 hm with rfl | hm
    · rw [coef_cons, if_pos rfl, up_head h]; omega
    · have hr := List.pairwise_cons.1 h
      rw [coef_cons, if_neg (by have := hr.1 m hm; omega), ih hr.2 hm]; omega
theorem IsSum.comes {l R : List (Int × Int)} (h : IsSum l R) {m : Int × Int} (hm : m ∈ R) : ∃ x ∈ l, x.1 = m.1 := by
  by_cases hx : ∃ x ∈ l, x.1 = m.1
  · exact hx
  · have h1 := coef_up h.up hm
    rw [h.eq, coef_none (fun x hx1 hx2 => hx ⟨x, hx1, hx2⟩)] at h1
    exact absurd h1.symm (h.nz m hm)

/-- One step of putting together. -/
theorem togStep_up {r : List (Int × Int)} {m : Int × Int} (h : Up r) (hle : ∀ p ∈ r, p.1 ≤ m.1) :
    Up (togStep r m) ∧ (∀ p ∈ togStep r m, p.1 ≤ m.1) ∧ ∀ v, coef (togStep r m) v = coef r v + (if m.1 = v then m.2 else 0) := by
  obtain ⟨mv, mk⟩ := m
  rcases snoc_cases r with rfl | ⟨r', ⟨pv, pk⟩, rfl⟩
  · refine ⟨by rw [togStep_nil]; simp [Up], fun p hp => ?_, fun v => ?_⟩
    · rw [togStep_nil] at hp; simp at hp; subst hp; exact Int.le_refl _
    · rw [togStep_nil, coef_cons, coef_nil]; omega
  · have hp := hle (pv, pk) (by simp)
    have hpair := List.pairwise_append.1 h
    by_cases e : pv = mv
    · subst e
      rw [togStep_eq]
      refine ⟨List.pairwise_append.2 ⟨hpair.1, by simp, fun a ha b hb => ?_⟩, fun p hp => ?_, fun v => ?_⟩
      · simp at hb; subst hb; exact hpair.2.2 a ha (pv, pk) (by simp)
      · rcases List.mem_append.1 hp with hp | hp
        · exact hle p (by simp [hp])
        · simp at hp; subst hp; exact Int.le_refl _
      · rw [coef_append, coef_append, coef_cons, coef_cons, coef_nil]
        by_cases hv : pv = v <;> simp [hv] <;> omega
    · rw [togStep_ne _ _ _ e]
      refine ⟨List.pairwise_append.2 ⟨h, by simp, fun a ha b hb => ?_⟩, fun p hp => ?_, fun v => ?_⟩
      · simp at hb; subst hb
        rcases List.mem_append.1 ha with ha | ha
        · have := hpair.2.2 a ha (pv, pk) (by simp); simp only at this hp ⊢; omega
        · simp at ha; subst ha; simp only at hp ⊢; omega
      · rcases List.mem_append.1 hp with hp | hp
        · exact hle p hp
        · simp at hp; subst hp; exact Int.le_refl _
      · rw [coef_append, coef_cons, coef_nil]; omega

/-- It doesn't fall. -/
def Asc (l : List (Int × Int)) : Prop := ∀ i j, i < j → j < l.length → (l.getD i (0, 0)).1 ≤ (l.getD j (0, 0)).1

theorem tog_up (l : List (Int × Int)) (h : Asc l) : ∀ k, k ≤ l.length → Up (tog (l.take k)) ∧ (∀ p ∈ tog (l.take k), ∀ j, k ≤ j → j < l.length → p.1 ≤ (l.getD j (0, 0)).1) ∧ ∀ v, coef (tog (l.take k)) v = coef (l.take k) v
  | 0, _ => ⟨by simp [tog, Up], fun p hp => by simp [tog] at hp, fun v => by simp [tog]⟩
  | k + 1, hk => by
    obtain ⟨h1, h2, h3⟩ := tog_up l h k (by omega)
    obtain ⟨g1, g2, g3⟩ := togStep_up (m := l.getD k (0, 0)) h1 (fun p hp => h2 p hp k (Nat.le_refl _) (by omega))
    rw [take_snoc l k (by omega), tog_snoc]
    refine ⟨g1, fun p hp j hj hjl => ?_, fun v => ?_⟩
    · exact Int.le_trans (g2 p hp) (h k j (by omega) hjl)
    · rw [g3, coef_append, h3, coef_cons, coef_nil]; omega

theorem coef_filter (l : List (Int × Int)) (v : Int) : coef (l.filter fun m => m.2 != 0) v = coef l v := by
  induction l with
  | nil => rfl
  | cons m r ih =>
    by_cases h : m.2 = 0
    · rw [List.filter_cons_of_neg (by simp [h]), ih, coef_cons]; simp [h]
    · rw [List.filter_cons_of_pos (by simp [h]), coef_cons, coef_cons, ih]
theorem tog_isSum (l : List (Int × Int)) (h : Asc l) : IsSum l ((tog l).filter fun m => m.2 != 0) := by
  have := tog_up l h l.length (Nat.le_refl _)
  rw [List.take_length] at this
  exact ⟨this.1.filter _, fun m hm => by have := (List.mem_filter.1 hm).2; simpa using this, fun v => (coef_filter _ v).trans (this.2.2 v)⟩

theorem exists_sum (l : List (Int × Int)) : ∃ R, IsSum l R := by
  refine ⟨_, (tog_isSum (l.mergeSort fun a b => decide (a.1 ≤ b.1)) ?_).perm (List.mergeSort_perm _ _)⟩
  intro i j hij hj
  have hs := List.pairwise_mergeSort (le := fun a b : Int × Int => decide (a.1 ≤ b.1)) (fun a b c h1 h2 => by simp at *; omega) (fun a b => by simp; omega) l
  have := List.pairwise_iff_getElem.1 hs i j (by omega) hj hij
  simp only [List.getD_eq_getElem?_getD]
  rw [List.getElem?_eq_getElem hj, List.getElem?_eq_getElem (by omega)]
  simpa using this
end Go.Proofs.YtmjhjacbhflcpaaDoor

namespace Go.Proofs.YtmjhjacbhflcpaaDoor
open Go.RowKit Go.Maps

/-- Forms in a row. -/
def LLies (B : Nat) (w : World) (a : Option Addr) (ls : List (Int × List (Int × Int))) : Prop :=
  ∀ i, i < ls.length → ∃ b off ta tcap, a = some ⟨b, off, none⟩ ∧ b < B ∧ w.cell? ⟨b, off + i * 2, none⟩ = some (.int .i64 (ls.getD i (0, [])).1) ∧ w.cell? ⟨b, off + i * 2 + 1, none⟩ = some (.slice ta (ls.getD i (0, [])).2.length tcap) ∧ Lies B w ta (ls.getD i (0, [])).2
/-- A part's form. -/
def lineAt (ls : List (Int × List (Int × Int))) (ps : List (Int × Int)) (k : Nat) : Int × List (Int × Int) := ls.getD (ps.getD k (0, 0)).1.toNat (0, [])
def timesL (x : Int) (l : List (Int × Int)) : List (Int × Int) := l.map fun m => (m.1, m.2 * x)
def cTo (ls : List (Int × List (Int × Int))) (ps : List (Int × Int)) : Nat → Int
  | 0 => 0
  | k + 1 => cTo ls ps k + (lineAt ls ps k).1 * (ps.getD k (0, 0)).2
def tTo (ls : List (Int × List (Int × Int))) (ps : List (Int × Int)) : Nat → List (Int × Int)
  | 0 => []
  | k + 1 => tTo ls ps k ++ timesL (ps.getD k (0, 0)).2 (lineAt ls ps k).2
/-- All parts are of lines that are there, and the lines are sound. -/
def partsOk (ls : List (Int × List (Int × Int))) (ps : List (Int × Int)) : Prop :=
  ps.length ≤ 64 ∧ ∀ k, k < ps.length → (0 ≤ (ps.getD k (0, 0)).1 ∧ (ps.getD k (0, 0)).1.toNat < ls.length) ∧ (1 ≤ (ps.getD k (0, 0)).2 ∧ (ps.getD k (0, 0)).2 ≤ 4096) ∧ snd (lineAt ls ps k).1 (lineAt ls ps k).2 = true

theorem coef_in {l : List (Int × Int)} {M : Int} (hM : 0 ≤ M) (h : ∀ m ∈ l, -M ≤ m.2 ∧ m.2 ≤ M) (v : Int) : -(l.length * M) ≤ coef l v ∧ coef l v ≤ l.length * M := by
  induction l with
  | nil => rw [coef_nil]; simp
  | cons m r ih =>
    have h1 := ih (fun x hx => h x (by simp [hx]))
    have h2 := h m (by simp)
    rw [coef_cons]
    have e : ((m :: r).length : Int) * M = r.length * M + M := by rw [List.length_cons]; push_cast; rw [Int.add_mul, Int.one_mul]
    rw [e]
    split <;> omega
theorem timesL_len (x : Int) (l : List (Int × Int)) : (timesL x l).length = l.length := by simp [timesL]
theorem timesL_in {c x : Int} {l : List (Int × Int)} (hs : snd c l = true) (hx : 1 ≤ x ∧ x ≤ 4096) : ∀ m ∈ timesL x l, -4398046511104 ≤ m.2 ∧ m.2 ≤ 4398046511104 := fun m hm => by
  obtain ⟨p, hp, rfl⟩ := List.mem_map.1 hm
  obtain ⟨i, hi, rfl⟩ := List.getElem_of_mem hp
  have := okAt_in ((snd_iff.1 hs).2.2 i hi)
  rw [List.getD_eq_getElem?_getD, List.getElem?_eq_getElem hi, Option.getD_some] at this
  have h1 : -1073741824 * x ≤ (l[i]).2 * x := Int.mul_le_mul_of_nonneg_right (by omega) (by omega)
  have h2 : (l[i]).2 * x ≤ 1073741824 * x := Int.mul_le_mul_of_nonneg_right (by omega) (by omega)
  show -4398046511104 ≤ (l[i]).2 * x ∧ (l[i]).2 * x ≤ 4398046511104
  omega
theorem tTo_in {ls : List (Int × List (Int × Int))} {ps : List (Int × Int)} (h : partsOk ls ps) : ∀ k, k ≤ ps.length → (tTo ls ps k).length ≤ k * 64 ∧ ∀ m ∈ tTo ls ps k, -4398046511104 ≤ m.2 ∧ m.2 ≤ 4398046511104
  | 0, _ => ⟨Nat.le_refl _, fun m hm => by cases hm⟩
  | k + 1, hk => by
    obtain ⟨h1, h2⟩ := tTo_in h k (by omega)
    obtain ⟨_, hx, hs⟩ := h.2 k (by omega)
    refine ⟨?_, fun m hm => ?_⟩
    · show (tTo ls ps k ++ _).length ≤ _
      rw [List.length_append, timesL_len]
      have := (snd_iff.1 hs).2.1
      omega
    · rcases List.mem_append.1 hm with hm | hm
      · exact h2 m hm
      · exact timesL_in hs hx m hm
theorem cTo_in {ls : List (Int × List (Int × Int))} {ps : List (Int × Int)} (h : partsOk ls ps) : ∀ k, k ≤ ps.length → -(k * 4398046511104 : Int) ≤ cTo ls ps k ∧ cTo ls ps k ≤ k * 4398046511104
  | 0, _ => by show _ ≤ (0 : Int) ∧ (0 : Int) ≤ _; omega
  | k + 1, hk => by
    have h1 := cTo_in h k (by omega)
    obtain ⟨_, hx, hs⟩ := h.2 k (by omega)
    have hc := (snd_iff.1 hs).1
    unfold wi at hc
    have hc' : -1073741824 ≤ (lineAt ls ps k).1 ∧ (lineAt ls ps k).1 ≤ 1073741824 := by simpa using hc
    have h3 : -1073741824 * (ps.getD k (0, 0)).2 ≤ (lineAt ls ps k).1 * (ps.getD k (0, 0)).2 := Int.mul_le_mul_of_nonneg_right hc'.1 (by omega)
    have h4 : (lineAt ls ps k).1 * (ps.getD k (0, 0)).2 ≤ 1073741824 * (ps.getD k (0, 0)).2 := Int.mul_le_mul_of_nonneg_right hc'.2 (by omega)
    show _ ≤ cTo ls ps k + _ ∧ cTo ls ps k + _ ≤ _
    push_cast
    omega
theorem timesL_take {x : Int} {l : List (Int × Int)} {j : Nat} (h : j < l.length) (v : Int) : coef (timesL x (l.take (j + 1))) v = coef (timesL x (l.take j)) v + (if (l.getD j (0, 0)).1 = v then (l.getD j (0, 0)).2 * x else 0) := by
  rw [take_snoc l j h]
  unfold timesL
  rw [List.map_append, coef_append]
  show _ + coef [_] v = _
  rw [coef_cons, coef_nil, Int.add_zero]

theorem Tryd.lawInt : Keyed Tryd.prog 3 := int_keyed Tryd.underlying3
theorem Tryd.zeroInt (w : World) : (zeroValue 3).run Tryd.prog w = .ok (.int .i64 0) w := by kernel_rfl
/-- A map of the sums. -/
structure Sums (T : List (Int × Int)) (n B : Nat) (w : World) : Prop where
  ex : ∃ D : DataW Unit, w.ownsMap Tryd.prog 3 (plainElem Tryd.prog 3) B n D ∧ ∀ v, D.atKey (.int .i64 v) (.lit (.int .i64 0)) = .lit (.int .i64 (coef T v))
end Go.Proofs.YtmjhjacbhflcpaaDoor
