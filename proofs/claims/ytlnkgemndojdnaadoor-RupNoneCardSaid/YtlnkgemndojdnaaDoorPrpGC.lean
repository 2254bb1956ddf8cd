/- The order of clauses and of literals: what follows doesn't depend on it. -/
import Derived.Test.YtlnkgemndojdnaaDoorPrpGB
set_option linter.unusedVariables false
set_option linter.unusedSimpArgs false
namespace Go.Proofs.YtlnkgemndojdnaaDoor
set_option maxRecDepth 100000

def rev (cs : List (List Int)) : List (List Int) := (cs.map List.reverse).reverse
theorem mem_rev {cs : List (List Int)} {c : List Int} : c ∈ rev cs ↔ c.reverse ∈ cs := by
  unfold rev
  rw [List.mem_reverse, List.mem_map]
  constructor
  · rintro ⟨d, hd, rfl⟩; rwa [List.reverse_reverse]
  · intro h; exact ⟨_, h, List.reverse_reverse c⟩
theorem rev_length (cs : List (List Int)) : (rev cs).length = cs.length := by simp [rev]
theorem rev_rev (cs : List (List Int)) : rev (rev cs) = cs := by
  unfold rev
  rw [List.map_reverse, List.reverse_reverse, List.map_map]
  have : (List.reverse ∘ List.reverse : List Int → List Int) = id := by funext x; simp
  rw [this, List.map_id]
theorem Der.rev {cs : List (List Int)} {ls : List Int} {l : Int} (h : Der cs ls l) : Der (rev cs) ls.reverse l := by
  induction h with
  | told h => exact .told (List.mem_reverse.2 h)
  | @rule c l hc hl _ ih => exact .rule (c := c.reverse) (mem_rev.2 (by rwa [List.reverse_reverse])) (List.mem_reverse.2 hl) (fun x hx hne => ih x (List.mem_reverse.1 hx) hne)
theorem der_rev {cs : List (List Int)} {ls : List Int} {l : Int} : Der (rev cs) ls.reverse l ↔ Der cs ls l := by
  constructor
  · intro h
    have := h.rev
    rwa [rev_rev, List.reverse_reverse] at this
  · exact Der.rev
theorem conf_rev {cs : List (List Int)} {ls : List Int} : Conf (rev cs) ls.reverse ↔ Conf cs ls := by
  unfold Conf
  rw [mem_rev]
  simp only [der_rev, List.reverse_nil]
theorem FollowIs.rev {n : Nat} {cs : List (List Int)} {ls : List Int} {b : Bool} {A : Nat → Int} (h : FollowIs n (rev cs) ls.reverse b A) : FollowIs n cs ls b A := by
  cases h with
  | conf h => exact .conf (conf_rev.1 h)
  | ok t z d h => exact .ok t z (fun l hl => (d l hl).trans der_rev) (fun e => h (conf_rev.2 e))
theorem sumTo_take (cs : List (List Int)) : ∀ k, k ≤ cs.length → sumTo cs k = ((cs.take k).map List.length).sum
  | 0, _ => by simp [sumTo]
  | k + 1, h => by
    rw [sumTo, sumTo_take cs k (by omega), take_snocG cs k (by omega)]
    simp
theorem sumTo_all (cs : List (List Int)) : sumTo cs cs.length = (cs.map List.length).sum := by rw [sumTo_take cs _ (Nat.le_refl _), List.take_length]
theorem sumTo_rev (cs : List (List Int)) : sumTo (rev cs) (rev cs).length = sumTo cs cs.length := by
  rw [sumTo_all, sumTo_all]
  unfold rev
  rw [List.map_reverse, List.sum_reverse, List.map_map]
  have : (List.length ∘ List.reverse : List Int → Nat) = List.length := by funext x; simp
  rw [this]
theorem litsB_rev (n : Int) (c : List Int) : litsB n c.reverse = litsB n c := by
  unfold litsB; rw [List.all_reverse]
theorem chkK_rev (n : Int) (cs : List (List Int)) : chkK n (rev cs) = chkK n cs := by
  have h : (rev cs).all (litsB n) = cs.all (litsB n) := by
    unfold rev
    rw [List.all_reverse, List.all_map]
    congr 1
    funext c
    exact litsB_rev n c
  unfold chkK
  rw [h, sumTo_rev, rev_length]
theorem fK_rev (n : Int) (cs : List (List Int)) (ls : List Int) : fK n (rev cs) ls.reverse = fK n cs ls := by
  unfold fK
  rw [chkK_rev, litsB_rev]
theorem LightIs.bigRev {n : Int} {cs : List (List Int)} {m : Nat} (hm : cs.length = m) (h : LightIs n cs) : m ≤ 16384 → ∀ j, j < m → ((rev cs).getD j []).length ≤ 4611686018427387904 := fun h1 j hj => by
  have hj2 : j < (rev cs).length := by rw [rev_length]; omega
  have h2 : (rev cs).getD j [] ∈ rev cs := by
    rw [List.getD_eq_getElem?_getD, List.getElem?_eq_getElem hj2]
    exact List.getElem_mem hj2
  obtain ⟨i, hi, e⟩ := List.getElem_of_mem (mem_rev.1 h2)
  have h3 := h.big hm h1 i (by omega)
  rw [List.getD_eq_getElem?_getD, List.getElem?_eq_getElem hi, Option.getD_some, e, List.length_reverse] at h3
  exact h3
theorem drop_rev (cs : List (List Int)) (k : Nat) (h : k < cs.length) : rev (cs.drop k) = rev (cs.drop (k + 1)) ++ [(cs.getD k []).reverse] := by
  unfold rev
  rw [List.drop_eq_getElem_cons h, List.map_cons, List.reverse_cons, List.getD_eq_getElem?_getD, List.getElem?_eq_getElem h]
  rfl
theorem drop_revL (c : List Int) (k : Nat) (h : k < c.length) : (c.drop k).reverse = (c.drop (k + 1)).reverse ++ [c.getD k 0] := by
  rw [List.drop_eq_getElem_cons h, List.reverse_cons, List.getD_eq_getElem?_getD, List.getElem?_eq_getElem h]
  rfl
end Go.Proofs.YtlnkgemndojdnaaDoor
