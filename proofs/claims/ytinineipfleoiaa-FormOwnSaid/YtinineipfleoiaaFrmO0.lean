/- A formula's value hangs on its variables alone. -/
import Derived.Test.YtinineipfleoiaaFrmM0
import Derived.Test.YtinineipfleoiaaFrmHas
import Derived.Test.YtinineipfleoiaaFrmJ
namespace Go.Proofs.Ytinineipfleoiaa
open Go.RowKit

theorem valOf_set {zs : List Int} {A : Nat} {x v : Int} (hv : 0 ≤ v) (h : v ≠ (A : Int)) : valOf (zs.set A x) v = valOf zs v := by
  unfold valOf
  rw [List.length_set]
  split
  · rw [List.getD_eq_getElem?_getD, List.getD_eq_getElem?_getD, List.getElem?_set_ne (by omega)]
  · rfl
theorem sAt_set {zs : List Int} {A : Nat} {x c : Int} {l : List (Int × Int)} (h : ∀ i, i < l.length → 0 ≤ (l.getD i (0, 0)).1 ∧ (l.getD i (0, 0)).1 ≠ (A : Int)) : ∀ k, k ≤ l.length → sAt c l (zs.set A x) k = sAt c l zs k
  | 0, _ => rfl
  | k + 1, hk => by
    show sAt c l (zs.set A x) k + (l.getD k (0, 0)).2 * valOf (zs.set A x) (l.getD k (0, 0)).1 = sAt c l zs k + (l.getD k (0, 0)).2 * valOf zs (l.getD k (0, 0)).1
    rw [sAt_set h k (by omega), valOf_set (h k (by omega)).1 (h k (by omega)).2]
theorem vTo_congr {zs zs' : List Int} {n : Nat} {b : Bool} {ks : List FT} (h : ∀ i, i < ks.length → vOf zs' n (ks.getD i default) = vOf zs n (ks.getD i default)) : ∀ k, k ≤ ks.length → vTo zs' n b ks k = vTo zs n b ks k
  | 0, _ => rfl
  | k + 1, hk => by
    rw [vTo_succ zs' n b ks k (by omega), vTo_succ zs n b ks k (by omega), vTo_congr h k (by omega), h k (by omega)]
theorem vOf_set (zs : List Int) (A : Nat) (x : Int) : ∀ (n : Nat) (f : FT), sndF n f = true → hasF (A : Int) n f = false → vOf (zs.set A x) n f = vOf zs n f
  | 0, _, h, _ => by cases h
  | n + 1, f, h, hh => by
    obtain ⟨hown, hkids⟩ := sndF_split h
    obtain ⟨ht, hk⟩ := hasF_split hh
    have ih := fun i hi => vOf_set zs A x n (f.ks.getD i default) (hkids i hi) (hk i hi)
    have hv := fun i hi => And.intro (ownF_vars hown i hi) (ht i hi)
    rcases ownF_kind hown with e | e | e | e | e | e
    · rw [vOf_0 e, vOf_0 e]
    · rw [vOf_1 e, vOf_1 e]
    · rw [vOf_2 e, vOf_2 e, sAt_set hv _ (Nat.le_refl _)]
      have : (∀ i, i < f.t.length → near f.t (zs.set A x) i = true) ↔ (∀ i, i < f.t.length → near f.t zs i = true) := by
        constructor
        · intro hn i hi
          have := hn i hi
          unfold near at this ⊢
          rwa [valOf_set (hv i hi).1 (hv i hi).2] at this
        · intro hn i hi
          have := hn i hi
          unfold near at this ⊢
          rwa [valOf_set (hv i hi).1 (hv i hi).2]
      simp only [this]
    · have hl := ownF_not hown e
      rw [vOf_4 e, vOf_4 e, ih 0 (by omega)]
    · rw [vOf_5 e, vOf_5 e, vTo_congr ih _ (Nat.le_refl _)]
    · rw [vOf_6 e, vOf_6 e, vTo_congr ih _ (Nat.le_refl _)]
theorem fvN_set (zs : List Int) (A : Nat) (x : Int) (n : Nat) (f : FT) (hh : hasF (A : Int) n f = false) : fvN (zs.set A x) n f = fvN zs n f := by
  unfold fvN
  by_cases h : cc n f = 0
  · rw [if_pos h, if_pos h, vOf_set zs A x n f (cc_snd h) hh]
  · rw [if_neg h, if_neg h]
end Go.Proofs.Ytinineipfleoiaa
