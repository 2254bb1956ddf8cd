/- What rup.Check answers. -/
import Derived.Test.YtlnkgemndojdnaaDoorRupB
import Derived.Test.YtlnkgemndojdnaaDoorErrC
set_option linter.unusedVariables false
set_option linter.unusedSimpArgs false
namespace Go.Proofs.YtlnkgemndojdnaaDoor
set_option maxRecDepth 100000
open Go.RowKit

theorem CLies.take {B : Nat} {w : World} {a : Option Addr} {cs : List (List Int)} (h : CLies B w a cs) (k : Nat) : CLies B w a (cs.take k) := fun i hi => by
  rw [List.length_take] at hi
  have e : (cs.take k).getD i [] = cs.getD i [] := by
    rw [List.getD_eq_getElem?_getD, List.getElem?_take, if_pos (by omega), List.getD_eq_getElem?_getD]
  rw [e]
  exact h i (by omega)
structure Few (cs ss : List (List Int)) : Prop where
  l1 : cs.length ≤ 200
  l2 : ss.length ≤ 100
  k1 : ∀ c, c ∈ cs → c.length ≤ 100
  k2 : ∀ c, c ∈ ss → c.length ≤ 100
theorem Few.k {cs ss : List (List Int)} (h : Few cs ss) : ∀ c, c ∈ cs ++ ss → c.length ≤ 100 := fun c hc => by
  rcases List.mem_append.1 hc with h1 | h1
  · exact h.k1 c h1
  · exact h.k2 c h1
theorem Few.l {cs ss : List (List Int)} (h : Few cs ss) : (cs ++ ss).length ≤ 300 := by rw [List.length_append]; have := h.l1; have := h.l2; omega
theorem getD_memC {cs : List (List Int)} {i : Nat} (h : i < cs.length) : cs.getD i [] ∈ cs := by
  rw [List.getD_eq_getElem?_getD, List.getElem?_eq_getElem h]; exact List.getElem_mem h
theorem sumTo_few {cs : List (List Int)} (h : ∀ c, c ∈ cs → c.length ≤ 100) : ∀ k, k ≤ cs.length → sumTo cs k ≤ 100 * k
  | 0, _ => by simp [sumTo]
  | k + 1, hk => by
    have h1 := sumTo_few h k (by omega)
    have h2 := h (cs.getD k []) (getD_memC (by omega))
    have e : sumTo cs (k + 1) = sumTo cs k + (cs.getD k []).length := rfl
    omega
theorem chkK_few {n : Int} {cs : List (List Int)} (h : cs.length ≤ 300) (hk : ∀ c, c ∈ cs → c.length ≤ 100) : chkK n cs = 0 ↔ (0 ≤ n ∧ n ≤ 8192) ∧ cs.all (litsB n) = true := by
  have hs := sumTo_few hk cs.length (Nat.le_refl _)
  unfold chkK
  by_cases h1 : n < 0 ∨ 8192 < n
  · rw [if_pos h1]; constructor
    · intro h; cases h
    · rintro ⟨h2, _⟩; omega
  · rw [if_neg h1, if_neg (by omega), if_neg (by omega)]
    by_cases h2 : cs.all (litsB n) = true
    · rw [if_pos h2]; exact ⟨fun _ => ⟨by omega, h2⟩, fun _ => rfl⟩
    · rw [if_neg h2]; exact ⟨fun h => (by cases h), fun h => absurd h.2 h2⟩
theorem chkK_take {n : Int} {cs : List (List Int)} (h : cs.length ≤ 300) (hk : ∀ c, c ∈ cs → c.length ≤ 100) (h0 : chkK n cs = 0) (k : Nat) : chkK n (cs.take k) = 0 := by
  have h1 := (chkK_few h hk).1 h0
  refine (chkK_few (by rw [List.length_take]; omega) (fun c hc => hk c (List.mem_of_mem_take hc))).2 ⟨h1.1, List.all_eq_true.2 fun c hc => List.all_eq_true.1 h1.2 c (List.mem_of_mem_take hc)⟩
def OkAt (cs ss : List (List Int)) (i : Nat) : Prop := Conf ((cs ++ ss).take (cs.length + i)) (negs (ss.getD i []))
inductive RupIs (n : Int) (cs ss : List (List Int)) : Int → Int → Prop
  | one : chkK n cs ≠ 0 → RupIs n cs ss (chkK n cs) (-1)
  | two : chkK n cs = 0 → chkK n (cs ++ ss) ≠ 0 → RupIs n cs ss (chkK n (cs ++ ss)) (-1)
  | step (i : Nat) : chkK n cs = 0 → chkK n (cs ++ ss) = 0 → i < ss.length → (∀ j, j < i → OkAt cs ss j) → ¬ OkAt cs ss i → RupIs n cs ss 9 i
  | opn : chkK n cs = 0 → chkK n (cs ++ ss) = 0 → (∀ j, j < ss.length → OkAt cs ss j) → [] ∉ cs ++ ss → RupIs n cs ss 8 (-1)
  | yes : chkK n cs = 0 → chkK n (cs ++ ss) = 0 → (∀ j, j < ss.length → OkAt cs ss j) → [] ∈ cs ++ ss → RupIs n cs ss 0 (-1)
theorem RupIs.unique {n : Int} {cs ss : List (List Int)} {x at' x2 at2 : Int} (h : RupIs n cs ss x at') (h2 : RupIs n cs ss x2 at2) : x = x2 ∧ at' = at2 := by
  cases h with
  | one h =>
    cases h2 with
    | one => exact ⟨rfl, rfl⟩
    | two h3 => exact absurd h3 h
    | step i h3 => exact absurd h3 h
    | opn h3 => exact absurd h3 h
    | yes h3 => exact absurd h3 h
  | two h h' =>
    cases h2 with
    | one h3 => exact absurd h h3
    | two h3 => exact ⟨rfl, rfl⟩
    | step i _ h3 => exact absurd h3 h'
    | opn _ h3 => exact absurd h3 h'
    | yes _ h3 => exact absurd h3 h'
  | step i h h' hi hj hn =>
    cases h2 with
    | one h3 => exact absurd h h3
    | two _ h3 => exact absurd h' h3
    | step k _ _ hk hjk hnk =>
      rcases Nat.lt_trichotomy i k with hlt | rfl | hlt
      · exact absurd (hjk i hlt) hn
      · exact ⟨rfl, rfl⟩
      · exact absurd (hj k hlt) hnk
    | opn _ _ h3 => exact absurd (h3 i hi) hn
    | yes _ _ h3 => exact absurd (h3 i hi) hn
  | opn h h' ha he =>
    cases h2 with
    | one h3 => exact absurd h h3
    | two _ h3 => exact absurd h' h3
    | step k _ _ hk hjk hnk => exact absurd (ha k hk) hnk
    | opn => exact ⟨rfl, rfl⟩
    | yes _ _ _ h3 => exact absurd h3 he
  | yes h h' ha he =>
    cases h2 with
    | one h3 => exact absurd h h3
    | two _ h3 => exact absurd h' h3
    | step k _ _ hk hjk hnk => exact absurd (ha k hk) hnk
    | opn _ _ _ h3 => exact absurd he h3
    | yes => exact ⟨rfl, rfl⟩
theorem RupIs.in {n : Int} {cs ss : List (List Int)} {x at' : Int} (h : RupIs n cs ss x at') : (0 ≤ x ∧ x ≤ 16) ∧ (0 ≤ at' → x ≠ 0) ∧ -1 ≤ at' := by
  have h1 := chkK_in n cs
  have h2 := chkK_in n (cs ++ ss)
  cases h <;> refine ⟨⟨by omega, by omega⟩, fun h => by omega, by omega⟩
theorem nil_mem {cs : List (List Int)} {k : Nat} (hk : k < cs.length) (h : (cs.getD k []).length = 0) : [] ∈ cs := by
  have := getD_memC hk
  rwa [List.length_eq_zero_iff.1 h] at this
theorem nil_not {cs : List (List Int)} (h : ∀ k, k < cs.length → (cs.getD k []).length ≠ 0) : [] ∉ cs := fun hm => by
  obtain ⟨k, hk, e⟩ := List.getElem_of_mem hm
  exact h k hk (by rw [List.getD_eq_getElem?_getD, List.getElem?_eq_getElem hk, e]; rfl)
theorem getD_app {cs ss : List (List Int)} {i : Nat} (hi : i < ss.length) : (cs ++ ss).getD (cs.length + i) [] = ss.getD i [] := by
  rw [List.getD_eq_getElem?_getD, List.getElem?_append_right (by omega), List.getD_eq_getElem?_getD]; congr 2; omega
theorem codeErr (B : Nat) (x : Int) (w : World) : ErrIs B x (-1) (codeV x) w := ⟨fun _ => rfl, fun h => by omega⟩
end Go.Proofs.YtlnkgemndojdnaaDoor
