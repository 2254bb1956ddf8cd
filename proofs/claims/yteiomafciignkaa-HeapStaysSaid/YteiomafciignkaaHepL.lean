/- Copies of cells and shares; own rows that are zeroed. -/
import Derived.Test.YteiomafciignkaaHepI
import Derived.Test.YteiomafciignkaaHepQ
import Derived.Test.YteiomafciignkaaHepU
set_option linter.unusedVariables false
set_option linter.unusedSimpArgs false
namespace Go.Proofs.Yteiomafciignkaa
set_option maxRecDepth 100000
open Go.RowKit

theorem grown_trans {w a b : World} {g : Nat} (h : w.grownBy a (some g)) (k : a.grownBy b (some g)) : w.grownBy b (some g) :=
  ⟨k.os.trans h.os, k.tape.trans h.tape, k.output.trans h.output, Nat.le_trans h.size k.size, fun i hi hne => (k.block i (Nat.lt_of_lt_of_le hi h.size) hne).trans (h.block i hi hne)⟩
theorem grown_refl (w : World) (g : Nat) : w.grownBy w (some g) := ⟨rfl, rfl, rfl, Nat.le_refl _, fun _ _ _ => rfl⟩
theorem grown_drew {w a : World} {g : Nat} (h : w.grownBy a (some g)) : w.grownBy a.drew (some g) := ⟨h.os, h.tape, h.output, h.size, h.block⟩
/-- What lies in blocks of its own stays when another block is written. -/
theorem own_keep {B g : Nat} {e : TypeId} {k : Nat} {v : Value} {n : Nat} {xs : List Value} {w w' : World} (h : w.ownsRow B e k v n xs) (hg : w.grownBy w' (some g)) (hlt : g < B) : w'.ownsRow B e k v n xs :=
  World.ownsRow.kept h hg (.inr fun e1 => by have := (World.ownsRow.lt h g e1).1; omega)
theorem own_below {B : Nat} {e : TypeId} {k : Nat} {v : Value} {n : Nat} {xs : List Value} {w w' : World} (h : w.ownsRow B e k v n xs) (hb : Below w.heap.size w w') : w'.ownsRow B e k v n xs :=
  World.ownsRow.kept (row := none) h ⟨hb.os, hb.tape, hb.output, hb.size, fun q hq _ => hb.block q hq⟩ (by cases v.ownBlock <;> simp)
/-- append([]T{}, xs...): a copy at a block of its own. -/
theorem run_copy_h {P : Program} (t ty e : TypeId) (i : TypeInfo) (z : Value) (ht : P.underlying t = some (.slice e)) (hi : P.info? e = some i) (hz : i.zero = some z) (hs : i.size = 3) (hby : i.bytes = 32) (hzs : z.cells.size = 3)
    (w : World) (a : Option Addr) (m cap : Nat) (ys : List HC) (hm : ys.length = m) (hl : HLies w.heap.size w a ys) (hsz : m * 32 ≤ 140737488355328) :
    ∃ g cap' w', (Builtin.append_ #[t, t] ty #[.slice (some ⟨w.heap.size, 0, none⟩) 0 0, .slice a m cap]).run P (w.alloc (.cells #[] e)) = .ok (.slice (some ⟨g, 0, none⟩) m cap') w' ∧ w'.ownsRow w.heap.size e 3 (.slice (some ⟨g, 0, none⟩) m cap') m (hcells ys) ∧ Below w.heap.size w w' := by
  have hA : Below w.heap.size w (w.alloc (.cells #[] e)) := (Below.refl _ w).alloc (Nat.le_refl _) _
  have hown : (w.alloc (.cells #[] e)).ownsRow w.heap.size e 3 (.slice (some ⟨w.heap.size, 0, none⟩) 0 0) 0 (hcells []) := World.ownsRow_made w #[] 0 (Nat.le_refl _) (Nat.zero_le _) rfl
  by_cases h0 : m = 0
  · subst h0
    have hy : ys = [] := List.length_eq_zero_iff.1 hm
    subst hy
    refine ⟨w.heap.size, 0, w.alloc (.cells #[] e), ?_, hown, hA⟩
    have hf : ∀ ad : Addr, (Builtin.firstCells 3 0 (.slice (some ad) 0 cap)).run P (w.alloc (.cells #[] e)) = .ok #[] (w.alloc (.cells #[] e)) := fun ad => run_firstCells_some _ 3 0 ad 0 cap [] (by simp) (fun j u h => by cases h)
    have hf0 := run_firstCells_none (P := P) (w.alloc (.cells #[] e)) 3 0 0 cap
    cases a <;> simp [Builtin.append_, run_underlying ht, sizeOf, typeInfo, hi, hs, Builtin.lenOf, hf, hf0, storeCells]
  · obtain ⟨v', w', hr, h1, _, h3⟩ := run_append_h (P := P) w.heap.size t ty e i z ht hi hz hs hby hzs _ 0 [] rfl hown hA.size a m cap ys hm (hl.up hA) (by omega)
    rw [Nat.zero_add, List.nil_append] at h1
    obtain ⟨g, cap', rfl, _⟩ := World.ownsRow.form h1 (by omega)
    exact ⟨g, cap', w', hr, h1, hA.trans h3⟩
/-- An own row that is written to, whatever it holds. -/
structure ZRow (e : TypeId) (B g n cap : Nat) (w : World) : Prop where
  row : ∃ xs : List Value, xs.length = n * 3 ∧ w.ownsRow B e 3 (.slice (some ⟨g, 0, none⟩) n cap) n xs
theorem ZRow.of {e : TypeId} {B g n cap : Nat} {w : World} {xs : List HC} (hn : xs.length = n) (h : w.ownsRow B e 3 (.slice (some ⟨g, 0, none⟩) n cap) n (hcells xs)) : ZRow e B g n cap w := ⟨_, by rw [hcells_len, hn], h⟩
theorem ZRow.lt {e : TypeId} {B g n cap : Nat} {w : World} (h : ZRow e B g n cap w) : B ≤ g ∧ g < w.heap.size := by
  obtain ⟨xs, _, h1⟩ := h.row
  exact World.ownsRow.lt h1 g rfl
theorem ZRow.cells {e : TypeId} {B g n cap : Nat} {w : World} (h : ZRow e B g n cap w) {i : Nat} (hi : i < n) : ∃ x y z, w.cell? ⟨g, i * 3, none⟩ = some x ∧ w.cell? ⟨g, i * 3 + 1, none⟩ = some y ∧ w.cell? ⟨g, i * 3 + 2, none⟩ = some z := by
  obtain ⟨xs, hl, h1⟩ := h.row
  refine ⟨xs[i * 3]'(by omega), xs[i * 3 + 1]'(by omega), xs[i * 3 + 2]'(by omega), ?_, ?_, ?_⟩
  · rw [World.ownsRow.cellAt h1 _ (by omega), List.getElem?_eq_getElem]
  · rw [World.ownsRow.cellAt h1 _ (by omega), List.getElem?_eq_getElem]
  · rw [World.ownsRow.cellAt h1 _ (by omega), List.getElem?_eq_getElem]
theorem ZRow.frozen {e : TypeId} {B g n cap : Nat} {w : World} (h : ZRow e B g n cap w) (j : Nat) : w.frozen? ⟨g, j, none⟩ = false := by
  obtain ⟨xs, hl, h1⟩ := h.row
  exact World.ownsRow.frozenAt h1 j
theorem ZRow.put {e : TypeId} {B g n cap : Nat} {w : World} (h : ZRow e B g n cap w) (i : Nat) (c : HC) : ZRow e B g n cap (put3 w g i c) ∧ w.grownBy (put3 w g i c) (some g) := by
  obtain ⟨xs, hl, h1⟩ := h.row
  have s1 := World.ownsRow.stored h1 (i * 3) (.int .i64 c.a)
  have s2 := World.ownsRow.stored s1.1 (i * 3 + 1) (.string c.f)
  have s3 := World.ownsRow.stored s2.1 (i * 3 + 2) (.int .i64 c.v)
  exact ⟨⟨_, by simpa using hl, s3.1⟩, grown_trans (grown_trans s1.2 s2.2) s3.2⟩
theorem ZRow.drew {e : TypeId} {B g n cap : Nat} {w : World} (h : ZRow e B g n cap w) : ZRow e B g n cap w.drew := by
  obtain ⟨xs, hl, h1⟩ := h.row
  exact ⟨xs, hl, own_below h1 (Below.refl _ _).drew⟩
theorem DropIs.one {hs : List HC} {k : Key} {ds es : List HC} {v u : Value} (hst : Stand hs) (h : DropIs hs k ds v) (h2 : DropIs hs k es u) : ds = es := by
  cases h with
  | yes i hi hk =>
    cases h2 with
    | yes j hj hk2 =>
      have := stand_one hst hi hj hk hk2
      subst this
      rfl
    | no hn => exact absurd hk (hn i hi)
  | no hn =>
    cases h2 with
    | yes j hj hk2 => exact absurd hk2 (hn j hj)
    | no _ => rfl
end Go.Proofs.Yteiomafciignkaa
