/- Lists of numbers that the call itself makes. -/
import Derived.Test.YtinineipfleoiaaLinV
import Derived.Maps.AppendAt
import Derived.Maps.Range
import Derived.OwnWalk
namespace Go.Proofs.Ytinineipfleoiaa
open Go.RowKit

def ints (zs : List Int) : List Value := zs.map (Value.int .i64)
theorem ints_len (zs : List Int) : (ints zs).length = zs.length := by simp [ints]
theorem ints_append (l r : List Int) : ints (l ++ r) = ints l ++ ints r := by simp [ints]
theorem ints_get (zs : List Int) (i : Nat) (h : i < zs.length) : (ints zs)[i]? = some (.int .i64 (zs.getD i 0)) := by simp [ints, List.getD_eq_getElem?_getD, h]
theorem ints_one (zs : List Int) : ∀ u ∈ ints zs, u.oneCell' = true := by
  intro u hu
  obtain ⟨m, _, rfl⟩ := List.mem_map.1 hu
  rfl
/-- A list of numbers of the call's own. -/
def IRow (B : Nat) (zs : List Int) (v : Value) (w : World) : Prop := w.ownsRow B 3 1 v zs.length (ints zs)
theorem Try.infoInt : (Try.prog.info? 3).map (fun i => (i.zero, i.size, i.bytes)) = some (some (.int .i64 0), 1, 8) := by kernel_rfl
theorem parts_of {P : Program} {t : TypeId} {z : Value} {a b : Nat} (h : (P.info? t).map (fun i => (i.zero, i.size, i.bytes)) = some (some z, a, b)) : ∃ i, P.info? t = some i ∧ i.zero = some z ∧ i.size = a ∧ i.bytes = b := by
  cases hp : P.info? t with
  | none => rw [hp] at h; cases h
  | some i =>
    rw [hp] at h
    simp at h
    exact ⟨i, rfl, h.1, h.2.1, h.2.2⟩

theorem IRow.nil (B : Nat) (w : World) : IRow B [] (.slice none 0 0) w := World.ownsRow_nil _ _ _ _
/-- Where an own list lies. -/
theorem IRow.at {B : Nat} {zs : List Int} {v : Value} {w : World} (h : IRow B zs v w) :
    (v = .slice none 0 0 ∧ zs = []) ∨ ∃ g cap, v = .slice (some ⟨g, 0, none⟩) zs.length cap ∧ B ≤ g ∧ g < w.heap.size ∧ zs.length ≤ cap ∧ cap ≤ maxLen ∧ (∀ o, w.frozen? ⟨g, o, none⟩ = false) ∧ ∀ i, i < zs.length → w.cell? ⟨g, i, none⟩ = some (.int .i64 (zs.getD i 0)) := by
  have hc := fun g => World.ownsRow.cells h (g := g)
  obtain ⟨h1, h2 | ⟨g, cap, cur, hv, hB, hh, hcap, hmax, hr⟩⟩ := h
  · exact .inl ⟨h2.1, List.eq_nil_of_length_eq_zero (by have := h2.2; simpa using this)⟩
  · right
    have hlt : g < w.heap.size := by
      by_cases e : g < w.heap.size
      · exact e
      · rw [Array.getElem?_eq_none (by omega)] at hh; cases hh
    refine ⟨g, cap, hv, hB, hlt, hcap, hmax, fun o => frozen_of_row _ _ _ _ _ hh, fun i hi => ?_⟩
    have := hc g (by rw [hv]; rfl) i _ (ints_get zs i hi)
    rwa [show (⟨g, 0, none⟩ : Addr).add i = ⟨g, i, none⟩ by unfold Addr.add; split <;> simp_all] at this
theorem IRow.nums {B : Nat} {zs : List Int} {v : Value} {w : World} (h : IRow B zs v w) : ∃ a cap, v = .slice a zs.length cap ∧ Nums w.heap.size w a zs ∧ (a = none → zs.length = 0 ∧ cap = 0) := by
  rcases h.at with ⟨rfl, rfl⟩ | ⟨g, cap, rfl, _, hlt, _, _, _, hc⟩
  · exact ⟨none, 0, rfl, fun i hi => absurd hi (Nat.not_lt_zero i), fun _ => ⟨rfl, rfl⟩⟩
  · exact ⟨some ⟨g, 0, none⟩, cap, rfl, fun i hi => ⟨g, 0, rfl, hlt, by rw [Nat.zero_add]; exact hc i hi⟩, fun e => by cases e⟩
/-- What a list that lies in memory has, cell by cell. -/
theorem Nums.news {B : Nat} {w : World} {a : Addr} {zs : List Int} (h : Nums B w (some a) zs) : ∀ j u, (ints zs)[j]? = some u → w.cell? (a.add j) = some u := by
  intro j u hj
  have hjl : j < zs.length := by rw [← ints_len]; exact (List.getElem?_eq_some_iff.1 hj).1
  obtain ⟨b, off, ha, _, h1⟩ := h j hjl
  injection ha with ha
  subst ha
  rw [ints_get zs j hjl] at hj
  injection hj with hj
  subst hj
  unfold Addr.add
  split
  · rename_i h0; subst h0; simpa using h1
  · exact h1
theorem IRow.set_nums {B : Nat} {zs : List Int} {g n cap : Nat} {w : World} (h : IRow B zs (.slice (some ⟨g, 0, none⟩) n cap) w) (i : Nat) (hi : i < zs.length) (x : Int) : Nums w.heap.size (w.setCell ⟨g, i, none⟩ (.int .i64 x)) (some ⟨g, 0, none⟩) (zs.set i x) := fun j hj => by
  rw [List.length_set] at hj
  rcases h.at with ⟨e, _⟩ | ⟨g', cap', e, _, hlt, _, _, _, hc⟩
  · cases e
  · simp only [Value.slice.injEq, Option.some.injEq, Addr.mk.injEq, and_true] at e
    obtain ⟨rfl, rfl, rfl⟩ := e
    refine ⟨g, 0, rfl, hlt, ?_⟩
    rw [Nat.zero_add]
    by_cases e : i = j
    · subst e
      rw [World.cell?_setCell_same _ _ _ (hc i hi)]
      simp [List.getD_eq_getElem?_getD, hi]
    · rw [World.cell?_setCell_other _ _ _ _ (by simp [e]), hc j hj]
      simp [List.getD_eq_getElem?_getD, List.getElem?_set_ne e]
end Go.Proofs.Ytinineipfleoiaa
