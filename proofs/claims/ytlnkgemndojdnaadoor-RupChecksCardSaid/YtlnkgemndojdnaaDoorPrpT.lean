/- How clauses, numbers and values read. -/
import Derived.Test.YtlnkgemndojdnaaDoorPrpR
import Derived.Test.YtlnkgemndojdnaaDoorRows
import Derived.ProofKit
import Derived.OpenShut
import Derived.ChangeOld
import Derived.Deep.Slices
import Derived.Deep.Fields
set_option linter.unusedVariables false
set_option linter.unusedSimpArgs false
namespace Go.Proofs.YtlnkgemndojdnaaDoor
set_option maxRecDepth 100000
open Go.ChangeShapes Go.WideShapes Go.RowKit Go.Deep

theorem list_ofD {α : Type} (d : α) (n : Nat) (p : Nat → α → Prop) (h : ∀ i, i < n → ∃ m, p i m) : ∃ l : List α, l.length = n ∧ ∀ i, i < n → p i (l.getD i d) := by
  induction n with
  | zero => exact ⟨[], rfl, fun i hi => absurd hi (Nat.not_lt_zero i)⟩
  | succ n ih =>
    obtain ⟨l, hl, hp⟩ := ih (fun i hi => h i (by omega))
    obtain ⟨m, hm⟩ := h n (by omega)
    refine ⟨l ++ [m], by simp [hl], fun i hi => ?_⟩
    by_cases e : i = n
    · subst e
      rw [List.getD_eq_getElem?_getD, List.getElem?_append_right (by omega), hl]
      simpa using hm
    · have := hp i (by omega)
      rw [List.getD_eq_getElem?_getD] at this ⊢
      rwa [List.getElem?_append_left (by omega)]
section
variable {H : Type} {enc : TypeId × Value → H} {P : Program} {w : World} {base : Nat} {spare : Nat → Bool} {held : Bool}
/-- A slice of what takes one cell each. -/
theorem open_one {t e : TypeId} {fuel : Nat} {v : Value} {x : DataW H × List MemPlace} (ht : P.underlying t = some (.slice e)) (hC : P.cellsOf e = 1) (h : DataW.trod enc P w base spare held fuel t [v] = some x) :
    ∃ (a : Option Addr) (len cap : Nat), v = .slice a len cap ∧ len ≤ cap ∧ cap ≤ maxLen ∧ ∀ i, i < len → ∃ b off c n y, a = some ⟨b, off, none⟩ ∧ b < w.heap.size ∧ w.cell? ⟨b, off + i, none⟩ = some c ∧ DataW.trod enc P w base spare held n e [c] = some y := by
  rcases DataW.trod_slice ht h with ⟨hcs, _⟩ | ⟨a, len, cap, elems, rest, n, _, hcs, _, _, hl, hm, hlen, hel, _, _⟩
  · injection hcs with hv
    exact ⟨none, 0, 0, hv, Nat.le_refl _, Nat.zero_le _, fun i hi => absurd hi (Nat.not_lt_zero i)⟩
  · injection hcs with hv
    refine ⟨some a, len, cap, hv, hl, hm, fun i hi => ?_⟩
    have h2 := hel i hi
    rw [hC, Nat.mul_one, List.getElem?_eq_getElem (by omega)] at h2
    obtain ⟨cs', hcs', ht'⟩ := Option.bind_eq_some_iff.1 h2
    obtain ⟨_, hcl, hat⟩ := World.cells?_some hcs'
    have hc := hat 0 (by omega)
    have h1 : cs' = [cs'[0]] := by
      match cs', hcl with
      | [c], _ => rfl
    rw [List.getElem?_eq_getElem (by omega)] at hc
    rw [h1] at ht'
    rw [Go.Deep.add_add, Nat.add_zero] at hc
    obtain ⟨b, off, spot⟩ := a
    have hs : spot = none := by
      have := World.cell?_spot hc
      by_cases h0 : spot = none
      · exact h0
      · have h3 := hel 0 (by omega)
        rw [hC, Nat.mul_one, List.getElem?_eq_getElem (by omega)] at h3
        obtain ⟨cs3, hcs3, _⟩ := Option.bind_eq_some_iff.1 h3
        obtain ⟨_, hcl3, hat3⟩ := World.cells?_some hcs3
        have hc3 := hat3 0 (by omega)
        rw [List.getElem?_eq_getElem (by omega), Go.Deep.add_add, Nat.add_zero] at hc3
        simpa [Addr.add] using World.cell?_spot hc3
    subst hs
    rw [Go.WideShapes.add_plain] at hc
    exact ⟨b, off, _, n, _, rfl, by simpa using block_lt_of_cell hc, hc, ht'⟩
end
section
variable {H : Type} {enc : TypeId × Value → H} {w : World} {base : Nat} {spare : Nat → Bool} {held : Bool}
theorem open_ints_row {fuel : Nat} {v : Value} {x : DataW H × List MemPlace} (h : DataW.trod enc Tryd.prog w base spare held fuel 34 [v] = some x) : ∃ (a : Option Addr) (n cap : Nat) (zs : List Int), v = .slice a n cap ∧ zs.length = n ∧ n ≤ maxLen ∧ Nums w.heap.size w a zs := by
  obtain ⟨a, n, cap, rfl, hl, hm, hi⟩ := open_one Tryd.underlying34 (by kernel_rfl) h
  obtain ⟨zs, hz, hp⟩ := list_ofD (0 : Int) n (fun i z => ∃ b off, a = some ⟨b, off, none⟩ ∧ b < w.heap.size ∧ w.cell? ⟨b, off + i, none⟩ = some (.int .i64 z)) (fun i hin => by
    obtain ⟨b, off, c, n', y, e, hb, hc, ht⟩ := hi i hin
    obtain ⟨z, e2, _, _⟩ := DataW.trod_int Tryd.underlying3 ht
    injection e2 with e2
    subst e2
    exact ⟨z, b, off, e, hb, hc⟩)
  exact ⟨a, n, cap, zs, rfl, hz, by omega, fun i hin => hp i (by omega)⟩
theorem open_nums {r : Reach} {b0 : Nat} {v : Value} {d : DataW H} {p : List MemPlace} (hv : Value.okWide Tryd.prog w r b0 34 v) (h : DataW.Trod enc Tryd.prog w base spare held 34 v d p) :
    ∃ (a : Option Addr) (n cap : Nat) (zs : List Int), v = .slice a n cap ∧ zs.length = n ∧ n ≤ maxLen ∧ Nums w.heap.size w a zs := by
  obtain ⟨a, len, cap, rfl⟩ := okWide_slice Tryd.underlying34 hv
  obtain ⟨fuel, hf⟩ := h
  exact open_ints_row (x := (d, p)) hf
theorem open_clauses {r : Reach} {b0 : Nat} {v : Value} {d : DataW H} {p : List MemPlace} (hv : Value.okWide Tryd.prog w r b0 22 v) (h : DataW.Trod enc Tryd.prog w base spare held 22 v d p) :
    ∃ (a : Option Addr) (m cap : Nat) (cs : List (List Int)), v = .slice a m cap ∧ cs.length = m ∧ m ≤ maxLen ∧ CLies w.heap.size w a cs ∧ ∀ j, j < m → (cs.getD j []).length ≤ maxLen := by
  obtain ⟨a, len, cap, rfl⟩ := okWide_slice Tryd.underlying22 hv
  obtain ⟨fuel, hf⟩ := h
  obtain ⟨a', n, cap', e, hl, hm, hi⟩ := open_one (v := .slice a len cap) (x := (d, p)) Tryd.underlying22 (by kernel_rfl) hf
  injection e with e1 e2 e3
  subst e1 e2 e3
  obtain ⟨cs, hc, hp⟩ := list_ofD ([] : List Int) len (fun i c => c.length ≤ maxLen ∧ ∃ b off ta tcap, a = some ⟨b, off, none⟩ ∧ b < w.heap.size ∧ w.cell? ⟨b, off + i, none⟩ = some (.slice ta c.length tcap) ∧ Nums w.heap.size w ta c) (fun i hin => by
    obtain ⟨b, off, c, n', y, e, hb, hc, ht⟩ := hi i hin
    obtain ⟨ta, k, tcap, zs, rfl, hz, hzm, hn⟩ := open_ints_row ht
    subst hz
    exact ⟨zs, hzm, b, off, ta, tcap, e, hb, hc, hn⟩)
  exact ⟨a, len, cap, cs, rfl, hc, by omega, fun i hin => (hp i (by omega)).2, fun j hj => (hp j hj).1⟩
theorem open_values {r : Reach} {b0 : Nat} {v : Value} {d : DataW H} {p : List MemPlace} (hv : Value.okWide Tryd.prog w r b0 31 v) (h : DataW.Trod enc Tryd.prog w base spare held 31 v d p) :
    ∃ (a : Option Addr) (n cap : Nat) (vs : List Bool), v = .slice a n cap ∧ vs.length = n ∧ n ≤ maxLen ∧ Bools w.heap.size w a vs := by
  obtain ⟨a, len, cap, rfl⟩ := okWide_slice Tryd.underlying31 hv
  obtain ⟨fuel, hf⟩ := h
  obtain ⟨a', n, cap', e, hl, hm, hi⟩ := open_one (v := .slice a len cap) (x := (d, p)) Tryd.underlying31 (by kernel_rfl) hf
  injection e with e1 e2 e3
  subst e1 e2 e3
  obtain ⟨vs, hz, hp⟩ := list_ofD false len (fun i z => ∃ b off, a = some ⟨b, off, none⟩ ∧ b < w.heap.size ∧ w.cell? ⟨b, off + i, none⟩ = some (.bool z)) (fun i hin => by
    obtain ⟨b, off, c, n', y, e, hb, hc, ht⟩ := hi i hin
    obtain ⟨z, e2, _⟩ := DataW.trod_bool Tryd.underlying4 ht
    injection e2 with e2
    subst e2
    exact ⟨z, b, off, e, hb, hc⟩)
  exact ⟨a, len, cap, vs, rfl, hz, by omega, fun i hin => hp i (by omega)⟩
end
end Go.Proofs.YtlnkgemndojdnaaDoor
