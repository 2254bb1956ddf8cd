/- formula.value. -/
import Derived.Test.YtinineipfleoiaaFrmD
import Derived.Test.YtinineipfleoiaaLinV
namespace Go.Proofs.Ytinineipfleoiaa
open Go.RowKit

def vStep (b : Bool) (p q : Bool × Bool) : Bool × Bool := (if (q.1 != b) = true then !b else p.1, p.2 && q.2)
/-- A formula's value, and whether the values of its variables may be. -/
def vOf (zs : List Int) : Nat → FT → Bool × Bool
  | 0, _ => (false, false)
  | n + 1, f =>
    if f.kind = 0 then (true, true)
    else if f.kind = 1 then (false, true)
    else if f.kind = 2 ∨ f.kind = 3 then
      if ∀ i, i < f.t.length → near f.t zs i = true then (decide (sAt f.c f.t zs f.t.length = 0) || (decide (sAt f.c f.t zs f.t.length < 0) && decide (f.kind = 2)), true) else (true, false)
    else if f.kind = 4 then (!(vOf zs n (f.ks.getD 0 default)).1, (vOf zs n (f.ks.getD 0 default)).2)
    else (f.ks.map (vOf zs n)).foldl (vStep (f.kind == 5)) (f.kind == 5, true)
def vTo (zs : List Int) (n : Nat) (b : Bool) (ks : List FT) (k : Nat) : Bool × Bool := ((ks.take k).map (vOf zs n)).foldl (vStep b) (b, true)
theorem vTo_succ (zs : List Int) (n : Nat) (b : Bool) (ks : List FT) (k : Nat) (h : k < ks.length) : vTo zs n b ks (k + 1) = vStep b (vTo zs n b ks k) (vOf zs n (ks.getD k default)) := by
  unfold vTo
  rw [List.take_succ_eq_append_getElem h, List.map_append, List.foldl_append]
  simp [List.getD_eq_getElem?_getD, h]
theorem ownF_form {f : FT} (h : ownF f = true) (hk : f.kind = 2 ∨ f.kind = 3) : snd f.c f.t = true := by
  unfold ownF ownV at h
  rw [if_neg (by omega), if_pos hk] at h
  simp at h
  exact h.1
theorem ownF_not {f : FT} (h : ownF f = true) (hk : f.kind = 4) : f.ks.length = 1 := by
  unfold ownF ownV at h
  rw [if_neg (by omega), if_neg (by omega), if_pos hk] at h
  simp at h
  omega
theorem ownF_kind {f : FT} (h : ownF f = true) : f.kind = 0 ∨ f.kind = 1 ∨ (f.kind = 2 ∨ f.kind = 3) ∨ f.kind = 4 ∨ f.kind = 5 ∨ f.kind = 6 := by
  by_cases hk : f.kind = 0 ∨ f.kind = 1 ∨ (f.kind = 2 ∨ f.kind = 3) ∨ f.kind = 4 ∨ f.kind = 5 ∨ f.kind = 6
  · exact hk
  · unfold ownF ownV at h
    rw [if_neg (by omega), if_neg (by omega), if_neg (by omega), if_neg (by omega)] at h
    cases h
theorem sndF_split {n : Nat} {f : FT} (h : sndF (n + 1) f = true) : ownF f = true ∧ ∀ i, i < f.ks.length → sndF n (f.ks.getD i default) = true := by
  have : (ownF f && decide (∀ i, i < f.ks.length → sndF n (f.ks.getD i default) = true)) = true := h
  rw [Bool.and_eq_true] at this
  exact ⟨this.1, of_decide_eq_true this.2⟩

/-- What formula.value answers. -/
def ValEnd (B : Nat) (p : Bool × Bool) (w : World) (e : Ending) (w' : World) : Prop := e = .returned (.tuple #[.bool p.1, .bool p.2]) ∧ Below B w w'
end Go.Proofs.Ytinineipfleoiaa
