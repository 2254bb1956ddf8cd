/- How cells and shares read that come in. -/
import Derived.Test.YteiomafciignkaaHepB
import Derived.Test.YteiomafciignkaaRows
import Derived.ProofKit
import Derived.OpenShut
import Derived.ChangeOld
import Derived.Deep.Slices
import Derived.Deep.Fields
import Derived.Lib.SmallJoins
set_option linter.unusedVariables false
set_option linter.unusedSimpArgs false
namespace Go.Proofs.Yteiomafciignkaa
set_option maxRecDepth 100000
open Go.ChangeShapes Go.WideShapes Go.RowKit Go.Deep

section
variable {H : Type} {enc : TypeId × Value → H} {P : Program} {w : World} {base : Nat} {spare : Nat → Bool} {held : Bool}
/-- A slice of structs of one-cell fields. -/
theorem open_slice_fields {t e : TypeId} {fs : Array Field} {fuel : Nat} {cs : List Value} {x : DataW H × List MemPlace} (ht : P.underlying t = some (.slice e)) (he : P.underlying e = some (.struct fs))
    (hone : oneCellFields P fs = true) (hC : P.cellsOf e = fs.size) (h : DataW.trod enc P w base spare held fuel t cs = some x) :
    (cs = [.slice none 0 0] ∧ x = (.nil, [])) ∨
    ∃ (a : Addr) (len cap m : Nat), cs = [.slice (some a) len cap] ∧ len ≤ cap ∧ cap ≤ maxLen ∧ len ≤ m ∧
      ∀ i, i < m → ∃ (n : Nat),
        ∀ (j : Nat) (f : Field), fs[j]? = some f → ∃ (v : Value) (y : DataW H × List MemPlace), w.cell? (a.add (i * fs.size + j)) = some v ∧ DataW.trod enc P w base spare held n f.type [v] = some y := by
  rcases open_slice ht h with h0 | ⟨a, len, cap, m, n, D, Pl, hcs, _, hl, hm, hmm, _, hi⟩
  · exact .inl h0
  · refine .inr ⟨a, len, cap, m, hcs, hl, hm, by rw [hmm]; split <;> omega, fun i him => ?_⟩
    obtain ⟨cs', hc, ht'⟩ := hi i him
    rw [hC] at hc
    obtain ⟨ys, n', _, _, _, hyl, hf⟩ := DataW.trod_struct he ht'
    obtain ⟨_, hcl, hat⟩ := World.cells?_some hc
    refine ⟨n', fun j f hj => ?_⟩
    obtain ⟨ho, hk⟩ := hone_of hone j f hj
    have hjl : j < fs.size := (Array.getElem?_eq_some_iff.1 hj).1
    have hcell := hat j hjl
    have hv : cs'[j]? = some (cs'[j]'(by omega)) := List.getElem?_eq_getElem (by omega)
    have h1 := hf j f hj
    rw [ho, hk] at h1
    have hone' : (cs'.drop j).take 1 = [cs'[j]'(by omega)] := by
      rw [List.drop_eq_getElem_cons (by omega)]
      rfl
    rw [hone'] at h1
    have hys : ys[j]? = some (ys[j]'(by omega)) := List.getElem?_eq_getElem (by omega)
    refine ⟨_, _, ?_, h1.trans hys⟩
    rw [← Go.Deep.add_add, hcell, hv]
end


def in64 (x : Int) : Prop := -9223372036854775808 ≤ x ∧ x ≤ 9223372036854775807
theorem in64_of {x : Int} (h : (Lit.int .i64 x).wf = true) : in64 x := by
  have h2 := h
  unfold Lit.wf at h2
  rw [Bool.and_eq_true, decide_eq_true_eq, decide_eq_true_eq] at h2
  exact h2
/-- Cells that came in. -/
structure CameH (w : World) (a : Option Addr) (n cap : Nat) (xs : List HC) : Prop where
  hn : xs.length = n
  hc : n ≤ cap ∧ cap ≤ 9223372036854775807
  nil : a = none → cap = 0
  sp : 0 < n → ∀ q, a = some q → q.spot = none
  lies : HLies w.heap.size w a xs
  wf : ∀ c, c ∈ xs → in64 c.a ∧ in64 c.v
theorem CameH.up {w w' : World} {a : Option Addr} {n cap : Nat} {xs : List HC} (h : CameH w a n cap xs) (hb : Below w.heap.size w w') : CameH w' a n cap xs := ⟨h.hn, h.hc, h.nil, h.sp, h.lies.up hb, h.wf⟩
theorem list_ofH (n : Nat) (p : Nat → HC → Prop) (h : ∀ i, i < n → ∃ m, p i m) : ∃ l : List HC, l.length = n ∧ ∀ i, i < n → p i (l.getD i hc0) := by
  induction n with
  | zero => exact ⟨[], rfl, fun i hi => absurd hi (Nat.not_lt_zero i)⟩
  | succ n ih =>
    obtain ⟨l, hl, hp⟩ := ih (fun i hi => h i (by omega))
    obtain ⟨m, hm⟩ := h n (by omega)
    refine ⟨l ++ [m], by simp [hl], fun i hi => ?_⟩
    by_cases e : i = n
    · subst e
      rw [List.getD_eq_getElem?_getD, List.getElem?_append_right (by omega), hl]
      simpa using hm
    · have := hp i (by omega)
      rw [List.getD_eq_getElem?_getD] at this ⊢
      rwa [List.getElem?_append_left (by omega)]
section
variable {H : Type} {enc : TypeId × Value → H} {w : World} {base : Nat} {spare : Nat → Bool} {held : Bool}
theorem openCell_row {fuel : Nat} {v : Value} {x : DataW H × List MemPlace} (h : DataW.trod enc Try.prog w base spare held fuel 22 [v] = some x) : ∃ a n cap l, v = .slice a n cap ∧ CameH w a n cap l := by
  rcases open_slice_fields Try.underlying22 Try.underlying30 (by kernel_rfl) (by kernel_rfl) h with ⟨hcs, _⟩ | ⟨a, len, cap, m, hcs, hl, hm, hlm, hi⟩
  · injection hcs with hv
    exact ⟨none, 0, 0, [], hv, rfl, ⟨Nat.le_refl _, by omega⟩, fun _ => rfl, fun h => absurd h (Nat.lt_irrefl 0), fun i hi => absurd hi (Nat.not_lt_zero i), fun m hm => by cases hm⟩
  · injection hcs with hv
    have hp : ∀ i, i < len → ∃ c : HC, w.cell? (a.add (i * 3)) = some (.int .i64 c.a) ∧ w.cell? (a.add (i * 3 + 1)) = some (.string c.f) ∧ w.cell? (a.add (i * 3 + 2)) = some (.int .i64 c.v) ∧ in64 c.a ∧ in64 c.v := by
      intro i hil
      obtain ⟨n, hf⟩ := hi i (by omega)
      obtain ⟨v0, y0, c0, t0⟩ := hf 0 _ rfl
      obtain ⟨v1, y1, c1, t1⟩ := hf 1 _ rfl
      obtain ⟨v2, y2, c2, t2⟩ := hf 2 _ rfl
      obtain ⟨z0, e0, _, f0⟩ := DataW.trod_int Try.underlying3 t0
      obtain ⟨z1, e1, _, _⟩ := DataW.trod_string Try.underlying9 t1
      obtain ⟨z2, e2, _, f2⟩ := DataW.trod_int Try.underlying3 t2
      injection e0 with e0
      injection e1 with e1
      injection e2 with e2
      subst e0 e1 e2
      exact ⟨⟨z0, z1, z2⟩, by simpa using c0, by simpa using c1, by simpa using c2, in64_of f0, in64_of f2⟩
    obtain ⟨l, hll, hlp⟩ := list_ofH len _ hp
    obtain ⟨b, off, sp⟩ := a
    have hs : 0 < len → sp = none := fun h0 => by
      have := World.cell?_spot (hlp 0 h0).1
      simpa [Addr.add] using this
    refine ⟨some ⟨b, off, sp⟩, len, cap, l, hv, hll, ⟨hl, hm⟩, fun h => (by cases h), fun h0 q hq => ?_, fun i hil => ?_, fun c hc => ?_⟩
    · injection hq with hq; subst hq; exact hs h0
    · rw [hll] at hil
      obtain rfl := hs (by omega)
      obtain ⟨c0, c1, c2, _⟩ := hlp i hil
      rw [Go.WideShapes.add_plain] at c0 c1 c2
      exact ⟨b, off, rfl, by simpa using block_lt_of_cell c0, c0, c1, c2⟩
    · obtain ⟨i, hi, rfl⟩ := List.getElem_of_mem hc
      have := (hlp i (by omega)).2.2.2
      simpa [List.getD_eq_getElem?_getD, hi] using this
theorem openCell {r : Reach} {b0 : Nat} {v : Value} {d : DataW H} {p : List MemPlace} (hv : Value.okWide Try.prog w r b0 22 v) (h : DataW.Trod enc Try.prog w base spare held 22 v d p) : ∃ a n cap l, v = .slice a n cap ∧ CameH w a n cap l := by
  obtain ⟨a, len, cap, rfl⟩ := okWide_slice Try.underlying22 hv
  obtain ⟨fuel, hf⟩ := h
  exact openCell_row (x := (d, p)) hf
theorem openShare_row {fuel : Nat} {v : Value} {x : DataW H × List MemPlace} (h : DataW.trod enc Try.prog w base spare held fuel 42 [v] = some x) : ∃ a n cap l, v = .slice a n cap ∧ CameH w a n cap l := by
  rcases open_slice_fields Try.underlying42 Try.underlying44 (by kernel_rfl) (by kernel_rfl) h with ⟨hcs, _⟩ | ⟨a, len, cap, m, hcs, hl, hm, hlm, hi⟩
  · injection hcs with hv
    exact ⟨none, 0, 0, [], hv, rfl, ⟨Nat.le_refl _, by omega⟩, fun _ => rfl, fun h => absurd h (Nat.lt_irrefl 0), fun i hi => absurd hi (Nat.not_lt_zero i), fun m hm => by cases hm⟩
  · injection hcs with hv
    have hp : ∀ i, i < len → ∃ c : HC, w.cell? (a.add (i * 3)) = some (.int .i64 c.a) ∧ w.cell? (a.add (i * 3 + 1)) = some (.string c.f) ∧ w.cell? (a.add (i * 3 + 2)) = some (.int .i64 c.v) ∧ in64 c.a ∧ in64 c.v := by
      intro i hil
      obtain ⟨n, hf⟩ := hi i (by omega)
      obtain ⟨v0, y0, c0, t0⟩ := hf 0 _ rfl
      obtain ⟨v1, y1, c1, t1⟩ := hf 1 _ rfl
      obtain ⟨v2, y2, c2, t2⟩ := hf 2 _ rfl
      obtain ⟨z0, e0, _, f0⟩ := DataW.trod_int Try.underlying3 t0
      obtain ⟨z1, e1, _, _⟩ := DataW.trod_string Try.underlying9 t1
      obtain ⟨z2, e2, _, f2⟩ := DataW.trod_int Try.underlying3 t2
      injection e0 with e0
      injection e1 with e1
      injection e2 with e2
      subst e0 e1 e2
      exact ⟨⟨z0, z1, z2⟩, by simpa using c0, by simpa using c1, by simpa using c2, in64_of f0, in64_of f2⟩
    obtain ⟨l, hll, hlp⟩ := list_ofH len _ hp
    obtain ⟨b, off, sp⟩ := a
    have hs : 0 < len → sp = none := fun h0 => by
      have := World.cell?_spot (hlp 0 h0).1
      simpa [Addr.add] using this
    refine ⟨some ⟨b, off, sp⟩, len, cap, l, hv, hll, ⟨hl, hm⟩, fun h => (by cases h), fun h0 q hq => ?_, fun i hil => ?_, fun c hc => ?_⟩
    · injection hq with hq; subst hq; exact hs h0
    · rw [hll] at hil
      obtain rfl := hs (by omega)
      obtain ⟨c0, c1, c2, _⟩ := hlp i hil
      rw [Go.WideShapes.add_plain] at c0 c1 c2
      exact ⟨b, off, rfl, by simpa using block_lt_of_cell c0, c0, c1, c2⟩
    · obtain ⟨i, hi, rfl⟩ := List.getElem_of_mem hc
      have := (hlp i (by omega)).2.2.2
      simpa [List.getD_eq_getElem?_getD, hi] using this
theorem openShare {r : Reach} {b0 : Nat} {v : Value} {d : DataW H} {p : List MemPlace} (hv : Value.okWide Try.prog w r b0 42 v) (h : DataW.Trod enc Try.prog w base spare held 42 v d p) : ∃ a n cap l, v = .slice a n cap ∧ CameH w a n cap l := by
  obtain ⟨a, len, cap, rfl⟩ := okWide_slice Try.underlying42 hv
  obtain ⟨fuel, hf⟩ := h
  exact openShare_row (x := (d, p)) hf
end
theorem Try.own : ownKnob Try.prog.godebug = none := by kernel_rfl
theorem Try.laidOut : laidOutB Try.prog = true := by kernel_rfl
end Go.Proofs.Yteiomafciignkaa
