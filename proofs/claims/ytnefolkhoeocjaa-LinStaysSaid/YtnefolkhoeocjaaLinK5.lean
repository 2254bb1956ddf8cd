/- The walk of LinSpreads. -/
import Derived.Test.YtnefolkhoeocjaaLinAd
import Derived.Test.YtnefolkhoeocjaaLinV
import Derived.Test.YtnefolkhoeocjaaLinU
namespace Go.Proofs.Ytnefolkhoeocjaa
open Go.RowKit

/-- The terms' values together. -/
def evl (zs : List Int) (l : List (Int × Int)) : Int := (l.map fun m => m.2 * valOf zs m.1).sum
theorem evl_nil (zs : List Int) : evl zs [] = 0 := rfl
theorem evl_cons (zs : List Int) (m : Int × Int) (l : List (Int × Int)) : evl zs (m :: l) = m.2 * valOf zs m.1 + evl zs l := by simp [evl]
theorem evl_append (zs : List Int) (l r : List (Int × Int)) : evl zs (l ++ r) = evl zs l + evl zs r := by simp [evl, List.sum_append]
theorem evl_perm (zs : List Int) {l r : List (Int × Int)} (h : l.Perm r) : evl zs l = evl zs r := by
  induction h with
  | nil => rfl
  | cons x _ ih => rw [evl_cons, evl_cons, ih]
  | swap x y l => simp only [evl_cons]; omega
  | trans _ _ h1 h2 => exact h1.trans h2
theorem evl_scale (zs : List Int) (x : Int) (l : List (Int × Int)) : evl zs (scale x l) = x * evl zs l := by
  induction l with
  | nil => simp [scale, evl]
  | cons m r ih =>
    have e : scale x (m :: r) = (m.1, x * m.2) :: scale x r := rfl
    rw [e, evl_cons, evl_cons, ih, Int.mul_add, Int.mul_assoc]
theorem evl_togStep (zs : List Int) (r : List (Int × Int)) (m : Int × Int) : evl zs (togStep r m) = evl zs r + m.2 * valOf zs m.1 := by
  obtain ⟨mv, mk⟩ := m
  rcases snoc_cases r with rfl | ⟨r', ⟨pv, pk⟩, rfl⟩
  · rw [togStep_nil, evl_cons, evl_nil]; omega
  · by_cases e : pv = mv
    · subst e
      rw [togStep_eq, evl_append, evl_append, evl_cons, evl_cons, evl_nil]
      simp only [Int.add_mul]; omega
    · rw [togStep_ne _ _ _ e, evl_append, evl_cons, evl_nil]; omega
theorem evl_tog (zs : List Int) (l : List (Int × Int)) : ∀ k, k ≤ l.length → evl zs (tog (l.take k)) = evl zs (l.take k)
  | 0, _ => by simp [tog]
  | k + 1, hk => by rw [take_snoc l k (by omega), tog_snoc, evl_togStep, evl_tog zs l k (by omega), evl_append, evl_cons, evl_nil]; omega
theorem evl_filter (zs : List Int) (l : List (Int × Int)) : evl zs (l.filter fun m => m.2 != 0) = evl zs l := by
  induction l with
  | nil => rfl
  | cons m r ih =>
    by_cases h : m.2 = 0
    · rw [List.filter_cons_of_neg (by simp [h]), ih, evl_cons, h]; simp
    · rw [List.filter_cons_of_pos (by simp [h]), evl_cons, evl_cons, ih]
theorem asc_sort (l : List (Int × Int)) : Asc (l.mergeSort fun a b => decide (a.1 ≤ b.1)) := by
  intro i j hij hj
  have hs := List.pairwise_mergeSort (le := fun a b : Int × Int => decide (a.1 ≤ b.1)) (fun a b c h1 h2 => by simp at *; omega) (fun a b => by simp; omega) l
  have := List.pairwise_iff_getElem.1 hs i j (by omega) hj hij
  simp only [List.getD_eq_getElem?_getD]
  rw [List.getElem?_eq_getElem hj, List.getElem?_eq_getElem (by omega)]
  simpa using this
theorem IsSum.evl {l R : List (Int × Int)} (h : IsSum l R) (zs : List Int) : evl zs R = evl zs l := by
  have hp := List.mergeSort_perm l fun a b => decide (a.1 ≤ b.1)
  have h2 := (tog_isSum _ (asc_sort l)).perm hp
  rw [h.unique h2, evl_filter]
  have := evl_tog zs (l.mergeSort fun a b => decide (a.1 ≤ b.1)) _ (Nat.le_refl _)
  rw [List.take_length] at this
  rw [this, evl_perm zs hp]

theorem sAt_evl (c : Int) (l : List (Int × Int)) (zs : List Int) : ∀ k, k ≤ l.length → sAt c l zs k = c + evl zs (l.take k)
  | 0, _ => by simp [sAt, evl]
  | k + 1, hk => by
    rw [take_snoc l k (by omega), evl_append, evl_cons, evl_nil]
    unfold sAt
    rw [sAt_evl c l zs k (by omega)]
    omega

/-- What gather makes is sound. -/
theorem snd_of_sum {c : Int} {l R : List (Int × Int)} (h : IsSum l R) (hc : wi c 1073741824 = true) (hk : ∀ m ∈ R, wi m.2 1073741824 = true) (h64 : R.length ≤ 64) (hV : ∀ m ∈ l, 0 ≤ m.1 ∧ m.1 < 1048576) : snd c R = true := by
  refine snd_iff.2 ⟨hc, h64, fun i hi => okAt_mk ?_⟩
  have hmem : R.getD i (0, 0) ∈ R := by rw [List.getD_eq_getElem?_getD, List.getElem?_eq_getElem hi]; simp
  obtain ⟨x, hx, hxe⟩ := h.comes hmem
  have hv := hV x hx
  have hw := hk _ hmem
  unfold wi at hw
  have hw : -1073741824 ≤ (R.getD i (0, 0)).2 ∧ (R.getD i (0, 0)).2 ≤ 1073741824 := by simpa using hw
  refine ⟨?_, h.nz _ hmem, by omega, by omega, hw.1, hw.2⟩
  by_cases h0 : i = 0
  · subst h0; rw [lastAt_zero]; omega
  · obtain ⟨j, rfl⟩ : ∃ j, i = j + 1 := ⟨i - 1, by omega⟩
    rw [lastAt_succ]
    have := List.pairwise_iff_getElem.1 h.up j (j + 1) (by omega) hi (by omega)
    rw [List.getD_eq_getElem?_getD, List.getElem?_eq_getElem (show j < R.length by omega), List.getD_eq_getElem?_getD, List.getElem?_eq_getElem hi]
    simpa using this

/-- Whatever lin.Value answers. -/
theorem value_total (c : Int) (a : Option Addr) (n cap : Nat) (l : List (Int × Int)) (a2 : Option Addr) (n2 cap2 : Nat) (zs : List Int) (w : World) (hn : l.length = n) (hm : n ≤ 9223372036854775807) (hn2 : zs.length = n2) (hl : Lies w.heap.size w a l) (hz : Nums w.heap.size w a2 zs) :
    ((∃ k : Int, ∀ W, Below w.heap.size w W → Calls Try.prog 20 #[.agg #[.int .i64 c, .slice a n cap], .slice a2 n2 cap2] W fun e w' => e = .returned (.tuple #[.int .i64 0, .iface 30 (.int .i64 k)]) ∧ Below W.heap.size W w') ∨
     (snd c l = true ∧ (∀ i, i < n → near l zs i = true) ∧ ∀ W, Below w.heap.size w W → Calls Try.prog 20 #[.agg #[.int .i64 c, .slice a n cap], .slice a2 n2 cap2] W fun e w' => e = .returned (.tuple #[.int .i64 (sAt c l zs n), .nilIface]) ∧ Below W.heap.size W w')) := by
  by_cases hs : snd c l = true
  · by_cases h : ∀ i, i < n → near l zs i = true
    · exact .inr ⟨hs, h, fun W hb => value_ok c a n cap l a2 n2 cap2 zs W hn hn2 ((hl.below hb).mono hb.size) ((hz.below hb).mono hb.size) hs h⟩
    · exact .inl ⟨1, fun W hb => value_far c a n cap l a2 n2 cap2 zs W hn hn2 ((hl.below hb).mono hb.size) ((hz.below hb).mono hb.size) hs h⟩
  · exact .inl ⟨5, fun W hb => value_form c a n cap l a2 n2 cap2 W hn hm ((hl.below hb).mono hb.size) (by simpa using hs)⟩

/-- Whatever lin.Add answers. -/
theorem add_total (ca cb x y : Int) (a b : Option Addr) (na nb capa capb : Nat) (la lb : List (Int × Int)) (w : World) (hna : la.length = na) (hnb : lb.length = nb) (hma : na ≤ 9223372036854775807) (hmb : nb ≤ 9223372036854775807) (hla : Lies w.heap.size w a la) (hlb : Lies w.heap.size w b lb) :
    ((∃ k : Int, ∀ W, Below w.heap.size w W → Calls Try.prog 18 #[.agg #[.int .i64 ca, .slice a na capa], .agg #[.int .i64 cb, .slice b nb capb], .int .i64 x, .int .i64 y] W (LinErr W.heap.size k W)) ∨
     (snd ca la = true ∧ snd cb lb = true ∧ (-4096 ≤ x ∧ x ≤ 4096) ∧ (-4096 ≤ y ∧ y ≤ 4096) ∧ ∃ R, IsSum (scale x la ++ scale y lb) R ∧ snd (x * ca + y * cb) R = true ∧
      ∀ W, Below w.heap.size w W → Calls Try.prog 18 #[.agg #[.int .i64 ca, .slice a na capa], .agg #[.int .i64 cb, .slice b nb capb], .int .i64 x, .int .i64 y] W (LinOk W.heap.size (x * ca + y * cb) R W))) := by
  by_cases ha : snd ca la = true
  · by_cases hb : snd cb lb = true
    · by_cases hx : -4096 ≤ x ∧ x ≤ 4096
      · by_cases hy : -4096 ≤ y ∧ y ≤ 4096
        · obtain ⟨R, hR⟩ := exists_sum (scale x la ++ scale y lb)
          have ht := both_terms ha hb hx hy
          by_cases hc : wi (x * ca + y * cb) 1073741824 = true
          · by_cases hk : ∀ m ∈ R, wi m.2 1073741824 = true
            · by_cases h64 : R.length ≤ 64
              · exact .inr ⟨ha, hb, hx, hy, R, hR, snd_of_sum hR hc hk h64 ht.2, fun W hbW => add_ok ca cb x y a b na nb capa capb la lb R W hna hnb ((hla.below hbW).mono hbW.size) ((hlb.below hbW).mono hbW.size) ha hb hx hy
                  fun a n cap W B hn hrow hB hm => gather_ok _ a n cap B _ R W hn hrow hB hm ht.1 ht.2 hR hc hk h64⟩
              · exact .inl ⟨2, fun W hbW => add_err 2 ca cb x y a b na nb capa capb la lb W hna hnb ((hla.below hbW).mono hbW.size) ((hlb.below hbW).mono hbW.size) ha hb hx hy
                  fun a n cap W B hn hrow hB hm => gather_long _ a n cap B _ R W hn hrow hB hm ht.1 ht.2 hR hc hk (by omega)⟩
            · exact .inl ⟨3, fun W hbW => add_err 3 ca cb x y a b na nb capa capb la lb W hna hnb ((hla.below hbW).mono hbW.size) ((hlb.below hbW).mono hbW.size) ha hb hx hy
                fun a n cap W B hn hrow hB hm => gather_far2 _ a n cap B _ R W hn hrow hB hm ht.1 ht.2 hR hc hk⟩
          · exact .inl ⟨3, fun W hbW => add_err 3 ca cb x y a b na nb capa capb la lb W hna hnb ((hla.below hbW).mono hbW.size) ((hlb.below hbW).mono hbW.size) ha hb hx hy
              fun a n cap W B hn hrow hB hm => gather_far1 _ a n cap B _ R W hn hrow hB hm ht.1 ht.2 hR (by simpa using hc)⟩
        · exact .inl ⟨1, fun W hbW => add_arg2 ca cb x y a b na nb capa capb la lb W hna hnb hma hmb ((hla.below hbW).mono hbW.size) ((hlb.below hbW).mono hbW.size) ha hb hx hy⟩
      · exact .inl ⟨1, fun W hbW => add_arg1 ca cb x y a b na nb capa capb la lb W hna hnb hma hmb ((hla.below hbW).mono hbW.size) ((hlb.below hbW).mono hbW.size) ha hb hx⟩
    · exact .inl ⟨5, fun W hbW => add_form2 ca cb x y a b na nb capa capb la lb W hna hnb hma hmb ((hla.below hbW).mono hbW.size) ((hlb.below hbW).mono hbW.size) ha (by simpa using hb)⟩
  · exact .inl ⟨5, fun W hbW => add_form1 ca cb x y a b na nb capa capb la lb W hna hnb hma hmb ((hla.below hbW).mono hbW.size) ((hlb.below hbW).mono hbW.size) (by simpa using ha)⟩
end Go.Proofs.Ytnefolkhoeocjaa
