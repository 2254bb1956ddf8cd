/- A token: the code's. -/
import Derived.Test.YtceknhhdgmappaaDoorScnJ
import Derived.BigRegion
import Derived.RegionTactic
import Derived.Deep.RegionHeld3
import Derived.Deep.RegionWith
set_option linter.unusedVariables false
set_option linter.unusedSimpArgs false
namespace Go.Proofs.YtceknhhdgmappaaDoor
set_option maxRecDepth 100000
open Go.RowKit

inductive TokIs (l : List UInt8) : Int → ByteArray → Int → Prop
  | bad {c : Int} {t : ByteArray} : stp l = .bad c → c ≠ 0 → TokIs l 0 t c
  | tok {k : Int} {n : Nat} {t : ByteArray} : stp l = .tok k n → 1 ≤ n → n ≤ l.length → t.data.toList = l.take n → TokIs l k t 0
def TokEnd (s : ByteArray) (w : World) (e : Ending) (w' : World) : Prop :=
  ∃ k t c, e = .returned (.tuple #[.agg #[.int .i64 k, .int .i64 0, .string t], .int .i64 c]) ∧ TokIs s.data.toList k t c ∧ Below w.heap.size w w'
/-- A result's cells. -/
structure ResAt (g : Nat) (W : World) : Prop where
  q0 : ∃ v, W.cell? ⟨g, 0, none⟩ = some v
  q1 : ∃ v, W.cell? ⟨g, 1, none⟩ = some v
  q2 : ∃ v, W.cell? ⟨g, 2, none⟩ = some v
  f0 : W.frozen? ⟨g, 0, none⟩ = false
  f1 : W.frozen? ⟨g, 1, none⟩ = false
  f2 : W.frozen? ⟨g, 2, none⟩ = false
theorem resAt_new (w : World) (a b c : Value) (t : TypeId) (W : World) (h : Below (w.alloc (.cells #[a, b, c] t)).heap.size (w.alloc (.cells #[a, b, c] t)) W) : ResAt w.heap.size W := by
  have hn := heap_alloc_new w (.cells #[a, b, c] t)
  have hl : w.heap.size < (w.alloc (.cells #[a, b, c] t)).heap.size := by simp
  have q : ∀ j, W.cell? ⟨w.heap.size, j, none⟩ = #[a, b, c][j]? := fun j => (h.cell (p := ⟨w.heap.size, j, none⟩) hl).trans (cell_of_row _ _ _ _ _ _ hn)
  have f : ∀ j, W.frozen? ⟨w.heap.size, j, none⟩ = false := fun j => (h.frozen (p := ⟨w.heap.size, j, none⟩) hl).trans (frozen_of_row _ _ _ _ _ hn)
  exact ⟨⟨a, by rw [q]; rfl⟩, ⟨b, by rw [q]; rfl⟩, ⟨c, by rw [q]; rfl⟩, f 0, f 1, f 2⟩
theorem take_size {s : ByteArray} {n : Nat} (h : n ≤ s.size) : (s.extract 0 n).size = n ∧ (s.extract 0 n).data.toList = s.data.toList.take n := by
  have e : (s.extract 0 n).data.toList = s.data.toList.take n := by rw [Lib.extract_data]; simp
  refine ⟨?_, e⟩
  rw [← size_l, e, List.length_take, size_l]; omega
theorem glue_is {l : List UInt8} : glueB (l.drop (runN isDig l)) = decide (0 < runN isIn (l.drop (runN isDig l))) := by
  by_cases h : runN isDig l < l.length
  · have hd := runN_at h
    rw [cons_of h]
    rw [runN_cons]
    simp only [glueB]
    generalize l[runN isDig l] = c at hd
    have : isIn c = isLet c := by unfold isIn; rw [hd, Bool.or_false]
    rw [this]
    cases isLet c <;> simp
  · rw [List.drop_eq_nil_of_le (by omega)]; rfl
theorem tokIs_name {s : ByteArray} (hs : NoSkip s.data.toList) (h : 0 < wordN s.data.toList) : ∀ t : ByteArray, t.size = wordN s.data.toList → t.data.toList = s.data.toList.take (wordN s.data.toList) →
    ∃ k t2 c, (if 32 < t.size then tokOut 0 ⟨#[]⟩ 2 else tokOut (if keyB t.data.toList then 2 else 1) t 0) = tokOut k t2 c ∧ TokIs s.data.toList k t2 c := fun t h1 h2 => by
  have e := stp_word hs h
  have hl := wordN_le s.data.toList
  rw [h1, h2]
  by_cases hb : 32 < wordN s.data.toList
  · rw [if_pos hb] at e ⊢
    exact ⟨_, _, _, rfl, .bad e (by decide)⟩
  · rw [if_neg hb] at e ⊢
    exact ⟨_, _, _, rfl, .tok e h hl h2⟩
theorem tokIs_num {s : ByteArray} (hs : NoSkip s.data.toList) (h0 : wordN s.data.toList = 0) (h : 0 < runN isDig s.data.toList) (gl : Bool) (hg : gl = decide (0 < runN isIn (s.data.toList.drop (runN isDig s.data.toList)))) : ∀ t : ByteArray, t.data.toList = s.data.toList.take (runN isDig s.data.toList) →
    ∃ k t2 c, (if numBad t.data.toList gl then tokOut 0 ⟨#[]⟩ 5 else tokOut 3 t 0) = tokOut k t2 c ∧ TokIs s.data.toList k t2 c := fun t h2 => by
  have e := stp_num hs h0 h
  have hl := runN_le isDig s.data.toList
  unfold numS at e
  rw [glue_is, ← hg] at e
  rw [h2]
  cases hb : numBad (s.data.toList.take (runN isDig s.data.toList)) gl with
  | true =>
    rw [hb, if_pos rfl] at e
    exact ⟨_, _, _, rfl, .bad e (by decide)⟩
  | false =>
    rw [hb, if_neg (by decide)] at e
    exact ⟨_, _, _, rfl, .tok e h hl h2⟩
theorem ops_at {i : Nat} (h : i < 21) : ∃ h2 : i < opsL.length, opsL.getD i [] = opsL[i] := ⟨h, by rw [List.getD_eq_getElem?_getD, List.getElem?_eq_getElem (show i < opsL.length from h)]; rfl⟩
theorem opA_size (i : Nat) : (opA i).size = (opsL.getD i []).length := by rw [← size_l, opA_data]
theorem tokIs_op {s : ByteArray} (hne : s.data.toList ≠ []) (hs : NoSkip s.data.toList) (h0 : wordN s.data.toList = 0) (h1 : runN isDig s.data.toList = 0) (i : Nat) (hi : i < 21) (hp : s.data.toList.take (opsL.getD i []).length = opsL.getD i []) (hno : ∀ j, j < i → s.data.toList.take (opsL.getD j []).length ≠ opsL.getD j []) : TokIs s.data.toList 4 (opA i) 0 := by
  obtain ⟨hi2, e⟩ := ops_at hi
  rw [e] at hp
  obtain ⟨a, b⟩ := opN_hit hi2 hp (fun j hj hji e2 => by
    obtain ⟨_, e3⟩ := ops_at (i := j) (by omega)
    exact hno j hji (by rw [e3]; exact e2))
  have e4 := stp_op hne hs h0 h1
  have := (ops_1_2 hi2).1
  rw [if_neg (by omega)] at e4
  exact .tok e4 (by omega) (opN_len _) (by rw [opA_data, e, b])
theorem tokIs_none {s : ByteArray} (hne : s.data.toList ≠ []) (hs : NoSkip s.data.toList) (h0 : wordN s.data.toList = 0) (h1 : runN isDig s.data.toList = 0) (hno : ∀ j, j < 21 → s.data.toList.take (opsL.getD j []).length ≠ opsL.getD j []) (t : ByteArray) : TokIs s.data.toList 0 t 10 := by
  have e4 := stp_op hne hs h0 h1
  rw [if_pos (opN_miss (fun j hj e => hno j hj (by
    obtain ⟨_, e3⟩ := ops_at (i := j) hj
    rw [e3]; exact e)))] at e4
  exact .bad e4 (by decide)
theorem opA_cmp (s : ByteArray) (i : Nat) (h : (opA i).size ≤ s.size) : ((s.extract 0 (opA i).size).toList == (opA i).toList) = decide (s.data.toList.take (opsL.getD i []).length = opsL.getD i []) := by
  rw [Bool.eq_iff_iff]
  simp only [Lib.toList_data, beq_iff_eq, decide_eq_true_eq]
  rw [(take_size h).2, opA_data, opA_size]
end Go.Proofs.YtceknhhdgmappaaDoor
