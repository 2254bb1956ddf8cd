/- Rows that are sorted in place: swaps; the insertion sort. -/
import Derived.Test.YteiomafciignkaaHepK
import Derived.BigRegion
set_option linter.unusedVariables false
set_option linter.unusedSimpArgs false
namespace Go.Proofs.Yteiomafciignkaa
set_option maxRecDepth 100000
open Go.RowKit

def le (x y : HC) : Prop := ¬ kl (hkey y) (hkey x) = true
theorem le_refl (x : HC) : le x x := kl_irrefl _
theorem le_trans {x y z : HC} (h1 : le x y) (h2 : le y z) : le x z := fun h => by
  by_cases e : hkey y = hkey x
  · unfold le at h2; rw [e] at h2; exact h2 h
  · rcases kl_total e with h3 | h3
    · exact h1 h3
    · exact h2 (kl_trans h h3)
theorem le_of_lt {x y : HC} (h : kl (hkey x) (hkey y) = true) : le x y := kl_asymm h
theorem le_or {x y : HC} : le x y ∨ kl (hkey y) (hkey x) = true := by
  unfold le
  cases kl (hkey y) (hkey x) <;> simp
abbrev at' (xs : List HC) (i : Nat) : HC := xs.getD i hc0
theorem at_set {xs : List HC} {i j : Nat} {c : HC} (hi : i < xs.length) : at' (xs.set i c) j = if j = i then c else at' xs j := by
  unfold at'
  rw [List.getD_eq_getElem?_getD, List.getElem?_set, List.getD_eq_getElem?_getD]
  by_cases h : i = j
  · subst h; rw [if_pos rfl, if_pos hi, if_pos rfl]; rfl
  · rw [if_neg h, if_neg (fun e => h e.symm)]
/-- Two places exchanged. -/
def swp (xs : List HC) (i j : Nat) : List HC := (xs.set i (at' xs j)).set j (at' xs i)
theorem swp_len (xs : List HC) (i j : Nat) : (swp xs i j).length = xs.length := by simp [swp]
theorem swp_at {xs : List HC} {i j k : Nat} (hi : i < xs.length) (hj : j < xs.length) : at' (swp xs i j) k = if k = j then at' xs i else if k = i then at' xs j else at' xs k := by
  unfold swp
  rw [at_set (by simpa using hj)]
  by_cases h : k = j
  · rw [if_pos h, if_pos h]
  · rw [if_neg h, if_neg h, at_set hi]
theorem swp_perm {xs : List HC} {i j : Nat} (hi : i < xs.length) (hj : j < xs.length) : xs.Perm (swp xs i j) := by
  have e1 : at' xs i = xs[i] := by simp [at', List.getD_eq_getElem?_getD, hi]
  have e2 : at' xs j = xs[j] := by simp [at', List.getD_eq_getElem?_getD, hj]
  unfold swp
  rw [e1, e2]
  exact (List.set_set_perm hi hj).symm
theorem hcells_set3 : ∀ (xs : List HC) (i : Nat) (c : HC), i < xs.length → (((hcells xs).set (i * 3) (.int .i64 c.a)).set (i * 3 + 1) (.string c.f)).set (i * 3 + 2) (.int .i64 c.v) = hcells (xs.set i c)
  | [], i, _, h => absurd h (Nat.not_lt_zero i)
  | x :: xs, 0, c, _ => rfl
  | x :: xs, i + 1, c, h => by
    have := hcells_set3 xs i c (by simpa using h)
    rw [show (i + 1) * 3 = i * 3 + 3 by omega, show i * 3 + 3 + 1 = i * 3 + 1 + 3 by omega, show i * 3 + 3 + 2 = i * 3 + 2 + 3 by omega]
    simp only [List.set_cons_succ]
    show [Value.int .i64 x.a, .string x.f, .int .i64 x.v] ++ (((hcells xs).set (i * 3) (.int .i64 c.a)).set (i * 3 + 1) (.string c.f)).set (i * 3 + 2) (.int .i64 c.v) = [Value.int .i64 x.a, .string x.f, .int .i64 x.v] ++ hcells (xs.set i c)
    rw [this]
/-- A row at a block. -/
structure RowAt (B g n cap : Nat) (xs : List HC) (w : World) : Prop where
  len : xs.length = n
  row : w.ownsRow B 44 3 (.slice (some ⟨g, 0, none⟩) n cap) n (hcells xs)
  cap : n ≤ cap ∧ cap ≤ 9223372036854775807
  low : B ≤ g ∧ g < w.heap.size
theorem RowAt.below {B g n cap : Nat} {xs : List HC} {w w' : World} (h : RowAt B g n cap xs w) (hb : Below w.heap.size w w') : RowAt B g n cap xs w' :=
  ⟨h.len, World.ownsRow.kept (row := none) h.row ⟨hb.os, hb.tape, hb.output, hb.size, fun q hq _ => hb.block q hq⟩ (by simp [Value.ownBlock]), h.cap, h.low.1, Nat.lt_of_lt_of_le h.low.2 hb.size⟩
theorem RowAt.cells {B g n cap : Nat} {xs : List HC} {w : World} (h : RowAt B g n cap xs w) {i : Nat} (hi : i < n) : w.cell? ⟨g, i * 3, none⟩ = some (.int .i64 (at' xs i).a) ∧ w.cell? ⟨g, i * 3 + 1, none⟩ = some (.string (at' xs i).f) ∧ w.cell? ⟨g, i * 3 + 2, none⟩ = some (.int .i64 (at' xs i).v) := by
  obtain ⟨g1, g2, g3⟩ := hcells_get xs i (by rw [h.len]; exact hi)
  exact ⟨(World.ownsRow.cellAt h.row _ (by omega)).trans g1, (World.ownsRow.cellAt h.row _ (by omega)).trans g2, (World.ownsRow.cellAt h.row _ (by omega)).trans g3⟩
theorem RowAt.frozen {B g n cap : Nat} {xs : List HC} {w : World} (h : RowAt B g n cap xs w) (j : Nat) : w.frozen? ⟨g, j, none⟩ = false := World.ownsRow.frozenAt h.row j
/-- The world behind a store of a share. -/
def put3 (w : World) (g i : Nat) (c : HC) : World := ((w.setCell ⟨g, i * 3, none⟩ (.int .i64 c.a)).setCell ⟨g, i * 3 + 1, none⟩ (.string c.f)).setCell ⟨g, i * 3 + 2, none⟩ (.int .i64 c.v)
theorem RowAt.put {B g n cap : Nat} {xs : List HC} {w : World} (h : RowAt B g n cap xs w) {i : Nat} (hi : i < n) (c : HC) : RowAt B g n cap (xs.set i c) (put3 w g i c) ∧ Below B w (put3 w g i c) := by
  refine ⟨⟨by simpa using h.len, ?_, h.cap, h.low.1, by simpa [put3] using h.low.2⟩, ((((Below.refl B w).setCell (p := ⟨g, _, none⟩) h.low.1 _).setCell (p := ⟨g, _, none⟩) h.low.1 _).setCell (p := ⟨g, _, none⟩) h.low.1 _)⟩
  rw [← hcells_set3 xs i c (by rw [h.len]; exact hi)]
  exact (World.ownsRow.stored (World.ownsRow.stored (World.ownsRow.stored h.row _ _).1 _ _).1 _ _).1
theorem RowAt.swap {B g n cap : Nat} {xs : List HC} {w : World} (h : RowAt B g n cap xs w) {i j : Nat} (hi : i < n) (hj : j < n) : RowAt B g n cap (swp xs i j) (put3 (put3 w g i (at' xs j)) g j (at' xs i)) ∧ Below B w (put3 (put3 w g i (at' xs j)) g j (at' xs i)) := by
  obtain ⟨h1, b1⟩ := h.put hi (at' xs j)
  obtain ⟨h2, b2⟩ := h1.put hj (at' xs i)
  exact ⟨h2, b1.trans b2⟩
def SortedSeg (xs : List HC) (a b : Nat) : Prop := ∀ p q, a ≤ p → p < q → q < b → le (at' xs p) (at' xs q)
structure Seg (xs0 xs : List HC) (a b : Nat) : Prop where
  perm : xs0.Perm xs
  out : ∀ k, k < a ∨ b ≤ k → at' xs k = at' xs0 k
  inn : ∀ k, a ≤ k → k < b → ∃ q, a ≤ q ∧ q < b ∧ at' xs k = at' xs0 q
theorem Seg.refl (xs : List HC) (a b : Nat) : Seg xs xs a b := ⟨List.Perm.refl _, fun _ _ => rfl, fun k h1 h2 => ⟨k, h1, h2, rfl⟩⟩
theorem Seg.swap {xs0 xs : List HC} {a b i j : Nat} (h : Seg xs0 xs a b) (hi : i < xs.length) (hj : j < xs.length) (hia : a ≤ i ∧ i < b) (hja : a ≤ j ∧ j < b) : Seg xs0 (swp xs i j) a b :=
  ⟨h.perm.trans (swp_perm hi hj), fun k hk => (by rw [swp_at hi hj, if_neg (by omega), if_neg (by omega)]; exact h.out k hk), fun k h1 h2 => by
    rw [swp_at hi hj]
    split
    · exact h.inn i hia.1 hia.2
    · split
      · exact h.inn j hja.1 hja.2
      · exact h.inn k h1 h2⟩
theorem Seg.trans {x y z : List HC} {a b : Nat} (h : Seg x y a b) (k : Seg y z a b) : Seg x z a b := ⟨h.perm.trans k.perm, fun q hq => (k.out q hq).trans (h.out q hq), fun q h1 h2 => by
  obtain ⟨r, r1, r2, r3⟩ := k.inn q h1 h2
  obtain ⟨s, s1, s2, s3⟩ := h.inn r r1 r2
  exact ⟨s, s1, s2, r3.trans s3⟩⟩
theorem Seg.mono {x y : List HC} {a b c d : Nat} (h : Seg x y a b) (h1 : c ≤ a) (h2 : b ≤ d) : Seg x y c d := ⟨h.perm, fun q hq => h.out q (by omega), fun q h3 h4 => by
  by_cases e : a ≤ q ∧ q < b
  · obtain ⟨r, r1, r2, r3⟩ := h.inn q e.1 e.2
    exact ⟨r, by omega, by omega, r3⟩
  · exact ⟨q, h3, h4, h.out q (by omega)⟩⟩
/-- Within the inner loop: the element at j goes left. -/
structure Ins (xs : List HC) (a i j : Nat) : Prop where
  oth : ∀ p q, a ≤ p → p < q → q ≤ i → p ≠ j → q ≠ j → le (at' xs p) (at' xs q)
  up : ∀ q, j < q → q ≤ i → le (at' xs j) (at' xs q)
theorem Ins.start {xs : List HC} {a i : Nat} (h : SortedSeg xs a i) : Ins xs a i i := ⟨fun p q h1 h2 h3 h4 h5 => h p q h1 h2 (by omega), fun q h1 h2 => by omega⟩
theorem Ins.step {xs : List HC} {a i j : Nat} (h : Ins xs a i (j + 1)) (hi : i < xs.length) (hj : a ≤ j) (hji : j + 1 ≤ i) (hlt : kl (hkey (at' xs (j + 1))) (hkey (at' xs j)) = true) : Ins (swp xs (j + 1) j) a i j := by
  have e : ∀ k, at' (swp xs (j + 1) j) k = if k = j then at' xs (j + 1) else if k = j + 1 then at' xs j else at' xs k := fun k => swp_at (by omega) (by omega)
  refine ⟨fun p q h1 h2 h3 h4 h5 => ?_, fun q h1 h2 => ?_⟩
  · rw [e p, e q, if_neg h4, if_neg h5]
    by_cases hp : p = j + 1
    · rw [if_pos hp, if_neg (by omega)]
      exact h.oth j q hj (by omega) h3 (by omega) (by omega)
    · rw [if_neg hp]
      by_cases hq : q = j + 1
      · rw [if_pos hq]
        exact h.oth p j h1 (by omega) (by omega) (by omega) (by omega)
      · rw [if_neg hq]
        exact h.oth p q h1 h2 h3 hp hq
  · rw [e j, e q, if_pos rfl, if_neg (by omega)]
    by_cases hq : q = j + 1
    · rw [if_pos hq]; exact le_of_lt hlt
    · rw [if_neg hq]; exact h.up q (by omega) h2
theorem Ins.done {xs : List HC} {a i j : Nat} (h : Ins xs a i j) (hj : a ≤ j) (hji : j ≤ i) (hx : j = a ∨ le (at' xs (j - 1)) (at' xs j)) : SortedSeg xs a (i + 1) := fun p q h1 h2 h3 => by
  by_cases hp : p = j
  · subst hp; exact h.up q h2 (by omega)
  · by_cases hq : q = j
    · subst hq
      rcases hx with rfl | hx
      · omega
      · by_cases e : p = q - 1
        · rw [e]; exact hx
        · exact le_trans (h.oth p (q - 1) h1 (by omega) (by omega) hp (by omega)) hx
    · exact h.oth p q h1 h2 (by omega) hp hq
end Go.Proofs.Yteiomafciignkaa
