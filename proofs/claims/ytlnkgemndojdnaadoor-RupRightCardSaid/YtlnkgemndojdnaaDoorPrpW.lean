/- Literals as clauses of one literal each, in an own row; PropRight: its walk. -/
import Derived.Test.YtlnkgemndojdnaaDoorPrpU
import Derived.Deep.AppendLies
import Derived.Deep.RegionLaw
set_option linter.unusedVariables false
set_option linter.unusedSimpArgs false
namespace Go.Proofs.YtlnkgemndojdnaaDoor
set_option maxRecDepth 100000
open Go.RowKit

def ocells (xs : List (Nat × Int)) : List Value := xs.map fun x => .slice (some ⟨x.1, 0, none⟩) 1 1
def oforms (xs : List (Nat × Int)) : List (List Int) := xs.map fun x => [x.2]
structure ORow (B : Nat) (xs : List (Nat × Int)) (v : Value) (w : World) : Prop where
  row : w.ownsRow B 34 1 v xs.length (ocells xs)
  lies : ∀ x ∈ xs, x.1 < w.heap.size ∧ v.ownBlock ≠ some x.1 ∧ w.cell? ⟨x.1, 0, none⟩ = some (.int .i64 x.2)
theorem ORow.nil (B : Nat) (w : World) : ORow B [] (.slice none 0 0) w := ⟨World.ownsRow_nil _ _ _ _, fun x hx => by cases hx⟩
theorem ORow.below {B : Nat} {xs : List (Nat × Int)} {v : Value} {w w' : World} (h : ORow B xs v w) (hb : Below w.heap.size w w') : ORow B xs v w' :=
  ⟨World.ownsRow.kept (row := none) h.row ⟨hb.os, hb.tape, hb.output, hb.size, fun q hq _ => hb.block q hq⟩ (by cases v.ownBlock <;> simp), fun x hx => by
    obtain ⟨h1, h2, h3⟩ := h.lies x hx
    exact ⟨Nat.lt_of_lt_of_le h1 hb.size, h2, (hb.cell (p := ⟨x.1, 0, none⟩) h1).trans h3⟩⟩
theorem ORow.step {B : Nat} {xs : List (Nat × Int)} {x : Nat × Int} {v v6 : Value} {w w5 w6 : World} {g H : Nat} (h : ORow B xs v w) (hb5 : Below w.heap.size w w5) (hx : x.1 < w5.heap.size ∧ w.heap.size ≤ x.1 ∧ w5.cell? ⟨x.1, 0, none⟩ = some (.int .i64 x.2)) (hg : w5.grownBy w6 v.ownBlock) (hH : w5.heap.size ≤ H)
    (hv : v6.ownBlock = some g) (hat : v.ownBlock = some g ∨ g = H) (hr : w6.ownsRow B 34 1 v6 (xs.length + 1) (ocells xs ++ [.slice (some ⟨x.1, 0, none⟩) 1 1])) : ORow B (xs ++ [x]) v6 w6 := by
  have hvb : ∀ b, v.ownBlock = some b → b < w.heap.size := fun b e => (World.ownsRow.lt h.row b e).2
  have hk : ∀ b o, b < w5.heap.size → v.ownBlock ≠ some b → w6.cell? ⟨b, o, none⟩ = w5.cell? ⟨b, o, none⟩ := fun b o hb hne => World.cell?_of_block (hg.block b hb (fun e => hne e.symm))
  have hne6 : ∀ b, b < w5.heap.size → v.ownBlock ≠ some b → v6.ownBlock ≠ some b := fun b hb hne e => by
    rw [hv] at e
    rcases hat with hat | hat
    · exact hne (hat.trans e)
    · injection e with e; omega
  refine ⟨?_, fun y hy => ?_⟩
  · rw [List.length_append]
    show w6.ownsRow B 34 1 v6 (xs.length + 1) (ocells (xs ++ [x]))
    rw [show ocells (xs ++ [x]) = ocells xs ++ [.slice (some ⟨x.1, 0, none⟩) 1 1] by simp [ocells]]
    exact hr
  · rcases List.mem_append.1 hy with hy | hy
    · obtain ⟨h1, h2, h3⟩ := h.lies y hy
      have h5 := Nat.lt_of_lt_of_le h1 hb5.size
      exact ⟨Nat.lt_of_lt_of_le h5 hg.size, hne6 _ h5 h2, (hk _ _ h5 h2).trans ((hb5.cell (p := ⟨y.1, 0, none⟩) h1).trans h3)⟩
    · rw [List.mem_singleton] at hy
      subst hy
      obtain ⟨h1, h2, h3⟩ := hx
      have hne : v.ownBlock ≠ some y.1 := fun e => by have := hvb _ e; omega
      exact ⟨Nat.lt_of_lt_of_le h1 hg.size, hne6 _ h1 hne, (hk _ _ h1 hne).trans h3⟩
theorem ORow.clies {B : Nat} {xs : List (Nat × Int)} {v : Value} {w : World} (h : ORow B xs v w) : ∃ a cap, v = .slice a xs.length cap ∧ CLies w.heap.size w a (oforms xs) := by
  have hr := h.row
  have hc := fun g => World.ownsRow.cells hr (g := g)
  have hlt := World.ownsRow.lt hr
  obtain ⟨_, h1 | ⟨g, cap, cur, hv, h2⟩⟩ := hr
  · refine ⟨none, 0, by rw [h1.1, h1.2], fun i hi => ?_⟩
    simp [oforms] at hi; omega
  · have hl := h.lies
    subst hv
    refine ⟨some ⟨g, 0, none⟩, cap, rfl, fun i hi => ?_⟩
    have hi : i < xs.length := by simpa [oforms] using hi
    obtain ⟨h1, h2, h3⟩ := hl _ (List.getElem_mem hi)
    have e : (oforms xs).getD i [] = [xs[i].2] := by simp [oforms, List.getD_eq_getElem?_getD, hi]
    have e2 : (ocells xs)[i]? = some (.slice (some ⟨xs[i].1, 0, none⟩) 1 1) := by simp [ocells, hi]
    rw [e]
    refine ⟨g, 0, some ⟨xs[i].1, 0, none⟩, 1, rfl, (hlt g rfl).2, ?_, fun j hj => ?_⟩
    · have := hc g rfl i _ e2
      rwa [show (⟨g, 0, none⟩ : Addr).add i = ⟨g, 0 + i, none⟩ by unfold Addr.add; split <;> simp_all] at this
    · match j, hj with
      | 0, _ => exact ⟨xs[i].1, 0, rfl, h1, h3⟩
theorem oforms_val {xs : List (Nat × Int)} {vs : List Bool} : valB (oforms xs) vs = true ↔ ∀ x ∈ xs, litV vs x.2 = true := by
  simp [valB, oforms, anyV]
theorem litV_neg {vs : List Bool} {l : Int} (h : litV vs l = true) : ¬ litV vs (-l) = true := fun h2 => by
  cases lit_way vs l with
  | zero _ hr => rw [h] at hr; cases hr
  | far _ _ hr => rw [h] at hr; cases hr
  | nfar _ _ hr => rw [h] at hr; cases hr
  | pos k b e1 e2 e3 hr =>
    rw [h] at hr
    subst hr
    cases lit_way vs (-l) with
    | zero _ hr => rw [h2] at hr; cases hr
    | far _ _ hr => rw [h2] at hr; cases hr
    | nfar _ _ hr => rw [h2] at hr; cases hr
    | pos k2 b f1 f2 f3 hr => omega
    | neg k2 b f1 f2 f3 hr =>
      obtain rfl : k = k2 := by omega
      rw [e3] at f3; rw [h2, ← f3] at hr; cases hr
  | neg k b e1 e2 e3 hr =>
    rw [h] at hr
    cases lit_way vs (-l) with
    | zero _ hr => rw [h2] at hr; cases hr
    | far _ _ hr => rw [h2] at hr; cases hr
    | nfar _ _ hr => rw [h2] at hr; cases hr
    | pos k2 b2 f1 f2 f3 hr2 =>
      obtain rfl : k = k2 := by omega
      rw [e3] at f3; rw [h2, ← f3] at hr2; rw [← hr2] at hr; cases hr
    | neg k2 b f1 f2 f3 hr => omega
/-- What agrees with values. -/
theorem follow_right {m : Nat} {cs : List (List Int)} {ls : List Int} {b : Bool} {A : Nat → Int} {vs : List Bool} (h : FollowIs m cs ls b A) (h1 : valB cs vs = true) (h2 : ∀ l, l ∈ ls → litV vs l = true) :
    b = false ∧ ∀ i, 1 ≤ i → i ≤ m → (A i = 1 → vs.getD (i - 1) false = true) ∧ (A i = -1 → vs.getD (i - 1) false = false) := by
  have hc : ∀ c, c ∈ cs → ∃ l, l ∈ c ∧ litV vs l = true := fun c hc => List.any_eq_true.1 (List.all_eq_true.1 h1 c hc)
  have hn : ∀ l, litV vs l = true → ¬ litV vs (-l) = true := fun l h => litV_neg h
  cases h with
  | conf h => exact absurd h (Conf.not (v := fun l => litV vs l = true) hn hc h2)
  | ok t z d h =>
    refine ⟨rfl, fun i hi hm => ?_⟩
    have v1 : va A (i : Int) = A i := by unfold va; rw [if_pos (by omega), Int.toNat_natCast]
    have v2 : va A (-(i : Int)) = -A i := by rw [va_neg (by omega), v1]
    constructor
    · intro ha
      have hd := ((d i ⟨by omega, by omega, by omega⟩).1 (by rw [v1]; exact ha)).holds (v := fun l => litV vs l = true) hn hc h2
      unfold litV at hd
      rw [if_pos (by omega)] at hd
      have := (Bool.and_eq_true _ _ ▸ hd).2
      rwa [show ((i : Int) - 1).toNat = i - 1 by omega] at this
    · intro ha
      have hd := ((d (-i) ⟨by omega, by omega, by omega⟩).1 (by rw [v2, ha]; decide)).holds (v := fun l => litV vs l = true) hn hc h2
      unfold litV at hd
      rw [if_neg (by omega)] at hd
      have := (Bool.and_eq_true _ _ ▸ hd).2
      rw [show (- -(i : Int) - 1).toNat = i - 1 by omega] at this
      simpa using this
end Go.Proofs.YtlnkgemndojdnaaDoor
