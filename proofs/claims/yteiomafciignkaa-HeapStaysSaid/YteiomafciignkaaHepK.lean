/- heap.Join: its walk, over what the sort does. -/
import Derived.Test.YteiomafciignkaaHepJ
import Derived.Test.YteiomafciignkaaHepH
import Derived.Deep.RegionLaw
set_option linter.unusedVariables false
set_option linter.unusedSimpArgs false
namespace Go.Proofs.Yteiomafciignkaa
set_option maxRecDepth 100000
open Go.RowKit

def addLast (l : List HC) (s : HC) : List HC := if 0 < l.length ∧ hkey (l.getD (l.length - 1) hc0) = hkey s then l.take (l.length - 1) ++ [⟨(l.getD (l.length - 1) hc0).a, (l.getD (l.length - 1) hc0).f, (l.getD (l.length - 1) hc0).v + s.v⟩] else l ++ [s]
def joinTo (ys : List HC) : Nat → List HC
  | 0 => []
  | k + 1 => addLast (joinTo ys k) (ys.getD k hc0)
theorem addLast_len (l : List HC) (s : HC) : (addLast l s).length ≤ l.length + 1 := by
  unfold addLast
  split
  · rw [List.length_append, List.length_take, List.length_cons, List.length_nil]; omega
  · simp
theorem joinTo_len (ys : List HC) : ∀ k, (joinTo ys k).length ≤ k
  | 0 => Nat.le_refl _
  | k + 1 => Nat.le_trans (addLast_len _ _) (Nat.succ_le_succ (joinTo_len ys k))
def BoundV (l : List HC) (b : Int) : Prop := ∀ c, c ∈ l → -b ≤ c.v ∧ c.v ≤ b
theorem getD_memH {l : List HC} {i : Nat} (h : i < l.length) : l.getD i hc0 ∈ l := by
  rw [List.getD_eq_getElem?_getD, List.getElem?_eq_getElem h]; exact List.getElem_mem h
theorem addLast_bound {l : List HC} {s : HC} {b c : Int} (h : BoundV l b) (hs : -c ≤ s.v ∧ s.v ≤ c) (hb : 0 ≤ b) (hc : 0 ≤ c) : BoundV (addLast l s) (b + c) := by
  unfold addLast
  split
  · rename_i hh
    intro x hx
    rcases List.mem_append.1 hx with h1 | h1
    · have := h x (List.mem_of_mem_take h1); omega
    · obtain rfl := List.mem_singleton.1 h1
      have := h _ (getD_memH (l := l) (i := l.length - 1) (by omega))
      simp only
      omega
  · intro x hx
    rcases List.mem_append.1 hx with h1 | h1
    · have := h x h1; omega
    · obtain rfl := List.mem_singleton.1 h1; omega
theorem joinTo_bound {ys : List HC} {c : Int} (h : BoundV ys c) (hc : 0 ≤ c) : ∀ k, k ≤ ys.length → BoundV (joinTo ys k) (k * c)
  | 0, _ => fun x hx => by cases hx
  | k + 1, hk => by
    have h1 := joinTo_bound h hc k (by omega)
    have h2 := addLast_bound h1 (h _ (getD_memH (l := ys) (i := k) (by omega))) (Int.mul_nonneg (by omega) hc) hc
    have e : ((k + 1 : Nat) : Int) * c = (k : Int) * c + c := by rw [Int.natCast_add, Int.add_mul]; simp
    rw [e]
    exact h2
/-- A row of shares of the call's own. -/
def SRow (B : Nat) (xs : List HC) (v : Value) (w : World) : Prop := w.ownsRow B 44 3 v xs.length (hcells xs)
theorem SRow.nil (B : Nat) (w : World) : SRow B [] (.slice none 0 0) w := World.ownsRow_nil _ _ _ _
theorem SRow.below {B : Nat} {xs : List HC} {v : Value} {w w' : World} (h : SRow B xs v w) (hb : Below w.heap.size w w') : SRow B xs v w' :=
  World.ownsRow.kept (row := none) h ⟨hb.os, hb.tape, hb.output, hb.size, fun q hq _ => hb.block q hq⟩ (by cases v.ownBlock <;> simp)
theorem SRow.form {B : Nat} {xs : List HC} {v : Value} {w : World} (h : SRow B xs v w) (hpos : 0 < xs.length) : ∃ g cap, v = .slice (some ⟨g, 0, none⟩) xs.length cap ∧ xs.length ≤ cap ∧ B ≤ g ∧ g < w.heap.size ∧ HLies w.heap.size w (some ⟨g, 0, none⟩) xs := by
  obtain ⟨g, cap, rfl, h1, h2⟩ := World.ownsRow.form h hpos
  obtain ⟨a, cap', e, h3, _, h5, _⟩ := own_hlies rfl h
  injection e with e1 e2 e3
  subst e1 e3
  exact ⟨g, cap, rfl, h3, h1, h2, h5⟩
/-- append(own, Share{..}). -/
theorem run_append_share {w : World} (ty : TypeId) (B : Nat) (xs : List HC) (v : Value) (c : HC) (hown : SRow B xs v w) (hB : B ≤ w.heap.size) (hsz : xs.length ≤ 1000000) :
    ∃ v' w', (Builtin.append_ #[42, 42] ty #[v, .slice (some ⟨w.heap.size, 0, none⟩) 1 1]).run Try.prog (w.alloc (.cells #[.int .i64 c.a, .string c.f, .int .i64 c.v] 44)) = .ok v' w' ∧ SRow B (xs ++ [c]) v' w' ∧ Below B w w' := by
  obtain ⟨i0, hi, hz0, hz1, hz2⟩ := info_parts Try.infoShare
  have hA : Below w.heap.size w (w.alloc (.cells #[.int .i64 c.a, .string c.f, .int .i64 c.v] 44)) := (Below.refl _ w).alloc (Nat.le_refl _) _
  have hown2 : (w.alloc (.cells #[.int .i64 c.a, .string c.f, .int .i64 c.v] 44)).ownsRow B 44 3 v xs.length (hcells xs) := hown.below hA
  have hl : HLies (w.alloc (.cells #[.int .i64 c.a, .string c.f, .int .i64 c.v] 44)).heap.size (w.alloc (.cells #[.int .i64 c.a, .string c.f, .int .i64 c.v] 44)) (some ⟨w.heap.size, 0, none⟩) [c] := (hlies_new w [c] 44).mono (by simp)
  obtain ⟨v', w', hr, h1, _, h3⟩ := run_append_h (P := Try.prog) B 42 ty 44 i0 _ Try.underlying42 hi hz0 hz1 hz2 rfl v xs.length xs rfl hown2 (Nat.le_trans hB hA.size) (some ⟨w.heap.size, 0, none⟩) 1 1 [c] rfl hl (by omega)
  refine ⟨v', w', hr, ?_, (hA.mono hB).trans h3⟩
  unfold SRow
  rw [List.length_append]
  exact h1
theorem hcells_set : ∀ (xs : List HC) (i : Nat) (u : Int), i < xs.length → (hcells xs).set (i * 3 + 2) (.int .i64 u) = hcells (xs.set i ⟨(xs.getD i hc0).a, (xs.getD i hc0).f, u⟩)
  | [], i, _, h => absurd h (Nat.not_lt_zero i)
  | x :: xs, 0, u, _ => rfl
  | x :: xs, i + 1, u, h => by
    have := hcells_set xs i u (by simpa using h)
    rw [show (i + 1) * 3 + 2 = (i * 3 + 2) + 3 by omega]
    simp only [List.set_cons_succ, List.getD_cons_succ]
    show [Value.int .i64 x.a, .string x.f, .int .i64 x.v] ++ (hcells xs).set (i * 3 + 2) (.int .i64 u) = [Value.int .i64 x.a, .string x.f, .int .i64 x.v] ++ hcells (xs.set i ⟨(xs.getD i hc0).a, (xs.getD i hc0).f, u⟩)
    rw [this]
theorem set_last (xs : List HC) (c : HC) (h : 0 < xs.length) : xs.set (xs.length - 1) c = xs.take (xs.length - 1) ++ [c] := by
  rw [List.set_eq_take_append_cons_drop, if_pos (by omega), List.drop_eq_nil_of_le (by omega)]
theorem SRow.stored {B g cap m : Nat} {xs : List HC} {w : World} (h : SRow B xs (.slice (some ⟨g, 0, none⟩) (m + 1) cap) w) (hm : xs.length = m + 1) (u : Int) : SRow B (xs.take m ++ [⟨(xs.getD m hc0).a, (xs.getD m hc0).f, u⟩]) (.slice (some ⟨g, 0, none⟩) (m + 1) cap) (w.setCell ⟨g, m * 3 + 2, none⟩ (.int .i64 u)) := by
  have h' : w.ownsRow B 44 3 (.slice (some ⟨g, 0, none⟩) (m + 1) cap) (m + 1) (hcells xs) := by rw [← hm] at h ⊢; exact h
  have := (World.ownsRow.stored h' (m * 3 + 2) (.int .i64 u)).1
  rw [hcells_set xs m u (by omega)] at this
  have e := set_last xs ⟨(xs.getD m hc0).a, (xs.getD m hc0).f, u⟩ (by omega)
  rw [hm, Nat.add_sub_cancel] at e
  rw [e] at this
  unfold SRow
  rw [List.length_append, List.length_take, hm, show min m (m + 1) = m by omega]
  exact this
/-- What the sort does. -/
structure SortIs (xs zs : List HC) : Prop where
  perm : xs.Perm zs
  sorted : ∀ i j, i < j → j < zs.length → ¬ kl (hkey (zs.getD j hc0)) (hkey (zs.getD i hc0)) = true
def SortEnd (xs : List HC) (B : Nat) (v : Value) (W : World) (e : Ending) (w' : World) : Prop := e = .returned (.tuple #[]) ∧ ∃ zs, SortIs xs zs ∧ SRow B zs v w' ∧ Below B W w'
def SortSaid (xs : List HC) : Prop := ∀ (W : World) (B : Nat) (v : Value), SRow B xs v W → B ≤ W.heap.size → Calls Try.prog 29 #[v, .func (.func 30) #[] #[]] W (SortEnd xs B v W)
theorem sort_pair (x y : HC) (hk : hkey x = hkey y) : SortSaid [x, y] := fun W B v h hB => by
  obtain ⟨g, cap, rfl, _, _, _, hl⟩ := h.form (by simp)
  refine (sort2_any g 0 cap x y W hl (by rw [hk, ordK_zero.2 rfl]; decide)).mono ?_
  rintro e w' ⟨rfl, hb⟩
  refine ⟨rfl, _, ⟨List.Perm.refl _, fun i j hij hj => ?_⟩, h.below hb, hb.mono hB⟩
  simp only [List.length_cons, List.length_nil] at hj
  obtain ⟨rfl, rfl⟩ : i = 0 ∧ j = 1 := by omega
  simp only [List.getD_cons_zero, List.getD_cons_succ]
  rw [hk]
  exact kl_irrefl _
end Go.Proofs.Yteiomafciignkaa
