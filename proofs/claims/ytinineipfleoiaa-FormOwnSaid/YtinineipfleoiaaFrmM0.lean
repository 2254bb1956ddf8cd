/- The document's Is: a formula's value; lemmas. -/
import Derived.Test.YtinineipfleoiaaFrmL
namespace Go.Proofs.Ytinineipfleoiaa
open Go.RowKit

theorem vTo_near {zs : List Int} {n : Nat} {b : Bool} {ks : List FT} : ∀ k, k ≤ ks.length → ((vTo zs n b ks k).2 = true ↔ ∀ i, i < k → (vOf zs n (ks.getD i default)).2 = true)
  | 0, _ => by
    constructor
    · intro _ i hi; omega
    · intro _; rfl
  | k + 1, h => by
    rw [vTo_succ zs n b ks k (by omega)]
    have ih := vTo_near (zs := zs) (n := n) (b := b) (ks := ks) k (by omega)
    show ((vTo zs n b ks k).2 && (vOf zs n (ks.getD k default)).2) = true ↔ _
    rw [Bool.and_eq_true, ih]
    constructor
    · rintro ⟨h1, h2⟩ i hi
      by_cases e : i = k
      · rw [e]; exact h2
      · exact h1 i (by omega)
    · intro h1
      exact ⟨fun i hi => h1 i (by omega), h1 k (by omega)⟩
theorem vTo_and (zs : List Int) (n : Nat) (ks : List FT) (k : Nat) (h : k < ks.length) : (vTo zs n true ks (k + 1)).1 = ((vTo zs n true ks k).1 && (vOf zs n (ks.getD k default)).1) := by
  rw [vTo_succ zs n true ks k h]
  show (if ((vOf zs n (ks.getD k default)).1 != true) = true then !true else (vTo zs n true ks k).1) = _
  cases (vOf zs n (ks.getD k default)).1 <;> cases (vTo zs n true ks k).1 <;> rfl
theorem vTo_or (zs : List Int) (n : Nat) (ks : List FT) (k : Nat) (h : k < ks.length) : (vTo zs n false ks (k + 1)).1 = ((vTo zs n false ks k).1 || (vOf zs n (ks.getD k default)).1) := by
  rw [vTo_succ zs n false ks k h]
  show (if ((vOf zs n (ks.getD k default)).1 != false) = true then !false else (vTo zs n false ks k).1) = _
  cases (vOf zs n (ks.getD k default)).1 <;> cases (vTo zs n false ks k).1 <;> rfl
theorem vOf_5 {zs : List Int} {n : Nat} {f : FT} (hk : f.kind = 5) : vOf zs (n + 1) f = vTo zs n true f.ks f.ks.length := by
  show (if f.kind = 0 then _ else if f.kind = 1 then _ else if f.kind = 2 ∨ f.kind = 3 then _ else if f.kind = 4 then _ else _) = _
  rw [if_neg (by omega), if_neg (by omega), if_neg (by omega), if_neg (by omega)]
  unfold vTo
  rw [List.take_length, show (f.kind == 5) = true from by rw [hk]; rfl]
theorem vOf_6 {zs : List Int} {n : Nat} {f : FT} (hk : f.kind = 6) : vOf zs (n + 1) f = vTo zs n false f.ks f.ks.length := by
  show (if f.kind = 0 then _ else if f.kind = 1 then _ else if f.kind = 2 ∨ f.kind = 3 then _ else if f.kind = 4 then _ else _) = _
  rw [if_neg (by omega), if_neg (by omega), if_neg (by omega), if_neg (by omega)]
  unfold vTo
  rw [List.take_length, show (f.kind == 5) = false from by rw [hk]; rfl]
theorem vOf_4 {zs : List Int} {n : Nat} {f : FT} (hk : f.kind = 4) : vOf zs (n + 1) f = (!(vOf zs n (f.ks.getD 0 default)).1, (vOf zs n (f.ks.getD 0 default)).2) := by
  show (if f.kind = 0 then _ else if f.kind = 1 then _ else if f.kind = 2 ∨ f.kind = 3 then _ else if f.kind = 4 then _ else _) = _
  rw [if_neg (by omega), if_neg (by omega), if_neg (by omega), if_pos hk]
theorem vOf_2 {zs : List Int} {n : Nat} {f : FT} (hk : f.kind = 2 ∨ f.kind = 3) : vOf zs (n + 1) f = if ∀ i, i < f.t.length → near f.t zs i = true then (decide (sAt f.c f.t zs f.t.length = 0) || (decide (sAt f.c f.t zs f.t.length < 0) && decide (f.kind = 2)), true) else (true, false) := by
  show (if f.kind = 0 then _ else if f.kind = 1 then _ else if f.kind = 2 ∨ f.kind = 3 then _ else _) = _
  rw [if_neg (by omega), if_neg (by omega), if_pos hk]
theorem vOf_0 {zs : List Int} {n : Nat} {f : FT} (hk : f.kind = 0) : vOf zs (n + 1) f = (true, true) := by show (if f.kind = 0 then _ else _) = _; rw [if_pos hk]
theorem vOf_1 {zs : List Int} {n : Nat} {f : FT} (hk : f.kind = 1) : vOf zs (n + 1) f = (false, true) := by show (if f.kind = 0 then _ else if f.kind = 1 then _ else _) = _; rw [if_neg (by omega), if_pos hk]

theorem ownF_noks {f : FT} (h : ownF f = true) (hk : f.kind = 0 ∨ f.kind = 1 ∨ f.kind = 2 ∨ f.kind = 3) : f.ks.length = 0 := by
  unfold ownF ownV at h
  by_cases h0 : f.kind = 0 ∨ f.kind = 1
  · rw [if_pos h0] at h
    simp at h
    have := h.2
    simp [this]
  · rw [if_neg h0, if_pos (by omega)] at h
    simp at h
    have := h.2
    simp [this]
/-- far is the opposite of near. -/
theorem far_near (zs : List Int) : ∀ (n : Nat) (f : FT), sndF n f = true → farF zs n f = !(vOf zs n f).2
  | 0, _, h => by cases h
  | n + 1, f, h => by
    obtain ⟨hown, hkids⟩ := sndF_split h
    have ih := fun i hi => far_near zs n (f.ks.getD i default) (hkids i hi)
    rcases ownF_kind hown with hk | hk | hk | hk | hk | hk
    · rw [vOf_0 hk]
      have ht : f.t.length = 0 := by rcases ownF_terms hown with h | h; exact h; omega
      have hl := ownF_noks hown (by omega)
      exact farF_no (fun i hi => by omega) (fun i hi => by omega)
    · rw [vOf_1 hk]
      have ht : f.t.length = 0 := by rcases ownF_terms hown with h | h; exact h; omega
      have hl := ownF_noks hown (by omega)
      exact farF_no (fun i hi => by omega) (fun i hi => by omega)
    · rw [vOf_2 hk]
      have hl := ownF_noks hown (by omega)
      split
      · rename_i hn
        exact farF_no hn (fun i hi => by omega)
      · rename_i hn
        obtain ⟨j, hj, h1, h2⟩ := first_no _ _ hn
        exact farF_yes1 hj h2
    · rw [vOf_4 hk]
      have ht : f.t.length = 0 := by rcases ownF_terms hown with h | h; exact h; omega
      have hl := ownF_not hown hk
      have i0 := ih 0 (by omega)
      show _ = !(vOf zs n (f.ks.getD 0 default)).2
      rw [← i0]
      cases hc : farF zs n (f.ks.getD 0 default) with
      | true => exact farF_yes2 (by omega) hc
      | false => exact farF_no (fun i hi => by omega) (fun i hi => by obtain rfl : i = 0 := by omega
                                                                      exact hc)
    all_goals
      first | rw [vOf_5 hk] | rw [vOf_6 hk]
      have ht : f.t.length = 0 := by rcases ownF_terms hown with h | h; exact h; omega
      rw [show ∀ b c : Bool, (b = !c) ↔ (c = true ↔ b = false) from by decide, vTo_near _ (Nat.le_refl _)]
      constructor
      · intro hh
        exact farF_no (fun i hi => by omega) (fun i hi => by rw [ih i hi, hh i hi]; rfl)
      · intro hh i hi
        have := ih i hi
        cases hc : (vOf zs n (f.ks.getD i default)).2 with
        | true => rfl
        | false =>
          rw [hc] at this
          rw [farF_yes2 hi this] at hh
          cases hh
end Go.Proofs.Ytinineipfleoiaa
