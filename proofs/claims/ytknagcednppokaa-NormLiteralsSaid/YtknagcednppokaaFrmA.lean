/- Formulas as trees. -/
import Derived.Test.YtknagcednppokaaLinD
namespace Go.Proofs.Ytknagcednppokaa
open Go.RowKit
/-- A formula as a tree: its kind, its form, its parts. -/
inductive FT where
  | mk (kind c : Int) (t : List (Int × Int)) (ks : List FT)
instance : Inhabited FT := ⟨.mk 0 0 [] []⟩
def FT.kind : FT → Int | .mk k _ _ _ => k
def FT.c : FT → Int | .mk _ c _ _ => c
def FT.t : FT → List (Int × Int) | .mk _ _ t _ => t
def FT.ks : FT → List FT | .mk _ _ _ ks => ks

def top (l : List Nat) : Nat := l.foldr max 0
theorem lt_top {m : Nat} {l : List Nat} : m < top l ↔ ∃ x ∈ l, m < x := by
  induction l with
  | nil => simp [top]
  | cons a r ih =>
    have e : top (a :: r) = max a (top r) := rfl
    rw [e]
    constructor
    · intro h
      by_cases h1 : m < a
      · exact ⟨a, by simp, h1⟩
      · obtain ⟨x, hx, hm⟩ := ih.1 (by omega)
        exact ⟨x, by simp [hx], hm⟩
    · rintro ⟨x, hx, hm⟩
      rcases List.mem_cons.1 hx with rfl | hx
      · omega
      · have := ih.2 ⟨x, hx, hm⟩
        omega

/-- How deep, of a tree of at most n layers. -/
def dep : Nat → FT → Nat
  | 0, _ => 0
  | n + 1, f => 1 + top (f.ks.map (dep n))
/-- How many parts. -/
def siz : Nat → FT → Nat
  | 0, _ => 0
  | n + 1, f => 1 + (f.ks.map (siz n)).sum
theorem dep_zero (n : Nat) (f : FT) : 0 < dep (n + 1) f := by unfold dep; omega
theorem dep_succ {n m : Nat} {f : FT} : m + 1 < dep (n + 1) f ↔ ∃ i, i < f.ks.length ∧ m < dep n (f.ks.getD i default) := by
  rw [show dep (n + 1) f = 1 + top (f.ks.map (dep n)) from rfl, show m + 1 < 1 + top (f.ks.map (dep n)) ↔ m < top (f.ks.map (dep n)) by omega, lt_top]
  constructor
  · rintro ⟨x, hx, hm⟩
    obtain ⟨k, hk, rfl⟩ := List.mem_map.1 hx
    obtain ⟨i, hi, rfl⟩ := List.getElem_of_mem hk
    exact ⟨i, hi, by rw [List.getD_eq_getElem?_getD, List.getElem?_eq_getElem hi]; exact hm⟩
  · rintro ⟨i, hi, hm⟩
    rw [List.getD_eq_getElem?_getD, List.getElem?_eq_getElem hi] at hm
    exact ⟨_, List.mem_map.2 ⟨_, List.getElem_mem hi, rfl⟩, hm⟩
/-- The size of the first parts. -/
def sizTo (n : Nat) (ks : List FT) (i : Nat) : Nat := ((ks.take i).map (siz n)).sum
theorem sizTo_zero (n : Nat) (ks : List FT) : sizTo n ks 0 = 0 := rfl
theorem sizTo_succ (n : Nat) (ks : List FT) (i : Nat) (h : i < ks.length) : sizTo n ks (i + 1) = sizTo n ks i + siz n (ks.getD i default) := by
  unfold sizTo
  rw [List.take_succ_eq_append_getElem h, List.map_append, List.sum_append]
  simp [List.getD_eq_getElem?_getD, h]
theorem sizTo_len (n : Nat) (f : FT) : siz (n + 1) f = 1 + sizTo n f.ks f.ks.length := by unfold siz sizTo; rw [List.take_length]
theorem sizTo_mono (n : Nat) (ks : List FT) {i j : Nat} (h : i ≤ j) : sizTo n ks i ≤ sizTo n ks j := by
  induction h with
  | refl => exact Nat.le_refl _
  | @step j h ih =>
    by_cases hj : j < ks.length
    · rw [sizTo_succ n ks j hj]; omega
    · unfold sizTo at ih ⊢
      rw [List.take_of_length_le (show ks.length ≤ j + 1 by omega)]
      rw [List.take_of_length_le (show ks.length ≤ j by omega)] at ih
      exact ih
theorem siz_pos (n : Nat) (f : FT) : 0 < siz (n + 1) f := by unfold siz; omega

/-- Is a formula itself sound, but for its parts, its depth and its size? (its kind, constant, terms' and parts' count, whether its form is sound) -/
def ownV (k c t l : Int) (sn : Bool) : Bool :=
  if k = 0 ∨ k = 1 then (c == 0 && t == 0) && l == 0
  else if k = 2 ∨ k = 3 then sn && l == 0
  else if k = 4 then (c == 0 && t == 0) && l == 1
  else if k = 5 ∨ k = 6 then c == 0 && t == 0
  else false
def ownF (f : FT) : Bool := ownV f.kind f.c f.t.length f.ks.length (snd f.c f.t)
/-- Is it sound, but for its depth and its size? -/
def sndF : Nat → FT → Bool
  | 0, _ => false
  | n + 1, f => ownF f && decide (∀ i, i < f.ks.length → sndF n (f.ks.getD i default) = true)

theorem sndF_no {n : Nat} {f : FT} {i : Nat} (hi : i < f.ks.length) (h : sndF n (f.ks.getD i default) = false) : sndF (n + 1) f = false := by
  show (ownF f && decide (∀ i, i < f.ks.length → sndF n (f.ks.getD i default) = true)) = false
  rw [decide_eq_false (fun hh => by rw [hh i hi] at h; cases h), Bool.and_false]
theorem sndF_yes {n : Nat} {f : FT} (h : ∀ i, i < f.ks.length → sndF n (f.ks.getD i default) = true) : sndF (n + 1) f = ownF f := by
  show (ownF f && decide (∀ i, i < f.ks.length → sndF n (f.ks.getD i default) = true)) = ownF f
  rw [decide_eq_true h, Bool.and_true]

/-- A formula lies in memory: its four cells; its terms and its parts in blocks below B. -/
def FLies (B : Nat) (w : World) : Nat → FT → List Value → Prop
  | 0, _, _ => False
  | n + 1, f, cs => ∃ (ta : Option Addr) (tcap : Nat) (ka : Option Addr) (kcap : Nat), cs = [.int .i64 f.kind, .int .i64 f.c, .slice ta f.t.length tcap, .slice ka f.ks.length kcap] ∧
      Lies B w ta f.t ∧ f.t.length ≤ 9223372036854775807 ∧ f.ks.length ≤ 9223372036854775807 ∧
      ∀ i, i < f.ks.length → ∃ b off c0 c1 c2 c3, ka = some ⟨b, off, none⟩ ∧ b < B ∧ w.cell? ⟨b, off + i * 4, none⟩ = some c0 ∧ w.cell? ⟨b, off + i * 4 + 1, none⟩ = some c1 ∧ w.cell? ⟨b, off + i * 4 + 2, none⟩ = some c2 ∧ w.cell? ⟨b, off + i * 4 + 3, none⟩ = some c3 ∧
        FLies B w n (f.ks.getD i default) [c0, c1, c2, c3]
theorem FLies.form {B : Nat} {w : World} : ∀ {n : Nat} {f : FT} {c0 c1 c2 c3 : Value}, FLies B w n f [c0, c1, c2, c3] → ∃ (k c : Int) (ta : Option Addr) (tn tcap : Nat) (ka : Option Addr) (kn kcap : Nat), c0 = .int .i64 k ∧ c1 = .int .i64 c ∧ c2 = .slice ta tn tcap ∧ c3 = .slice ka kn kcap
  | 0, _, _, _, _, _, h => h.elim
  | n + 1, f, _, _, _, _, ⟨ta, tcap, ka, kcap, h1, _⟩ => by
    simp only [List.cons.injEq, and_true] at h1
    exact ⟨_, _, _, _, _, _, _, _, h1.1, h1.2.1, h1.2.2.1, h1.2.2.2⟩
theorem FLies.below {B : Nat} {w w' : World} (hb : Below B w w') : ∀ {n : Nat} {f : FT} {cs : List Value}, FLies B w n f cs → FLies B w' n f cs
  | 0, _, _, h => h
  | n + 1, f, cs, ⟨ta, tcap, ka, kcap, h1, h2, h3, h4, h5⟩ => ⟨ta, tcap, ka, kcap, h1, h2.below hb, h3, h4, fun i hi => by
    obtain ⟨b, off, c0, c1, c2, c3, e, hlt, g0, g1, g2, g3, hf⟩ := h5 i hi
    exact ⟨b, off, c0, c1, c2, c3, e, hlt, (hb.cell (p := ⟨b, off + i * 4, none⟩) hlt).trans g0, (hb.cell (p := ⟨b, off + i * 4 + 1, none⟩) hlt).trans g1, (hb.cell (p := ⟨b, off + i * 4 + 2, none⟩) hlt).trans g2, (hb.cell (p := ⟨b, off + i * 4 + 3, none⟩) hlt).trans g3, hf.below hb⟩⟩
theorem FLies.mono {B B' : Nat} {w : World} (hB : B ≤ B') : ∀ {n : Nat} {f : FT} {cs : List Value}, FLies B w n f cs → FLies B' w n f cs
  | 0, _, _, h => h
  | n + 1, f, cs, ⟨ta, tcap, ka, kcap, h1, h2, h3, h4, h5⟩ => ⟨ta, tcap, ka, kcap, h1, h2.mono hB, h3, h4, fun i hi => by
    obtain ⟨b, off, c0, c1, c2, c3, e, hlt, g0, g1, g2, g3, hf⟩ := h5 i hi
    exact ⟨b, off, c0, c1, c2, c3, e, Nat.lt_of_lt_of_le hlt hB, g0, g1, g2, g3, hf.mono hB⟩⟩
end Go.Proofs.Ytknagcednppokaa
