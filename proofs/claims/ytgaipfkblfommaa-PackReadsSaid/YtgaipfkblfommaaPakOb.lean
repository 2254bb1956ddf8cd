/- How bytes read that come in. -/
import Derived.Test.YtgaipfkblfommaaPakO
import Derived.Test.YtgaipfkblfommaaPakJ
set_option linter.unusedVariables false
set_option linter.unusedSimpArgs false
namespace Go.Proofs.Ytgaipfkblfommaa
set_option maxRecDepth 100000
open Go.ChangeShapes Go.WideShapes Go.RowKit Go.Deep

section
variable {H : Type} {enc : TypeId × Value → H} {w : World} {base : Nat} {spare : Nat → Bool} {held : Bool}
theorem opn_byte : Opn enc w base spare held byteSh 5 := fun h => by
  obtain ⟨z, rfl, _, hw⟩ := DataW.trod_int Try.underlying5 h
  have h2 := hw
  unfold Lit.wf at h2
  rw [Bool.and_eq_true, decide_eq_true_eq, decide_eq_true_eq] at h2
  have h3 : 0 ≤ z := h2.1
  have h4 : z ≤ 255 := h2.2
  refine ⟨z.toNat.toUInt8, ?_⟩
  show _ = _
  rw [Lib.toUInt8_toNat (by omega)]
  simp only [List.cons.injEq, and_true]
  rw [Int.toNat_of_nonneg h3]
theorem open_bytes {r : Reach} {b0 : Nat} {v : Value} {d : DataW H} {p : List MemPlace} (hv : Value.okWide Try.prog w r b0 27 v) (h : DataW.Trod enc Try.prog w base spare held 27 v d p) :
    ∃ a n cap l, v = .slice a n cap ∧ l.length = n ∧ Sits byteSh (Lo w.heap.size) w a l ∧ (n ≤ cap ∧ cap ≤ 9223372036854775807) ∧ (a = none → cap = 0) := by
  obtain ⟨a, len, cap, rfl⟩ := okWide_slice Try.underlying27 hv
  obtain ⟨fuel, hf⟩ := h
  obtain ⟨a2, cap2, xs, e, hs, h1, h2, h3⟩ := open_row (sh := byteSh) Try.underlying27 (by kernel_rfl) (by decide) opn_byte hf
  simp [Value.cells] at e
  obtain ⟨rfl, rfl, rfl⟩ := e
  exact ⟨a, xs.length, cap, xs, rfl, rfl, hs, ⟨h1, h2⟩, h3⟩
end
end Go.Proofs.Ytgaipfkblfommaa
