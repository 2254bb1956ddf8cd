/- All tokens: the document's. (By genScnT.py.) -/
import Derived.Test.YtceknhhdgmappaaDoorScnO
set_option linter.unusedVariables false
set_option linter.unusedSimpArgs false
namespace Go.Proofs.YtceknhhdgmappaaDoor
set_option maxRecDepth 100000
open Go.RowKit

theorem At.skip1 {s : ByteArray} {R : Res} {i n : Nat} {ts : List Tok} (h : At s R i ts) (hi : i < s.size) (hs : stp (s.data.toList.drop i) = .skip n) (hn : 1 ≤ n) : At s R (i + n) ts := by
  have hl := stp_skip_le hs
  rw [List.length_drop, size_l] at hl
  exact ⟨by omega, h.eq.skip (by rw [size_l]; exact hi) hs hn, by have := h.few; omega⟩
theorem stp_bl {c : UInt8} {r : List UInt8} (h : isBl c = true) : stp (c :: r) = .skip 1 := by rw [stp, if_pos h]
theorem stp_cm {c : UInt8} {r : List UInt8} (h : c.toNat = 47) (h2 : r.head? = some 47) : stp (c :: r) = .skip (runN notNl (c :: r)) ∧ 1 ≤ runN notNl (c :: r) := by
  refine ⟨by rw [stp, notBl_slash h, if_neg (by simp), if_pos ⟨h, h2⟩], ?_⟩
  rw [runN_cons, if_pos (by simp [notNl, h])]; omega
theorem noSkip_c {c : UInt8} {r : List UInt8} (h : isBl c = false) (h2 : ¬ (c.toNat = 47 ∧ r.head? = some 47)) : NoSkip (c :: r) := fun n => by
  rw [stp, h, if_neg (by simp), if_neg h2]
  repeat' split
  all_goals first | (intro h; cases h) | (unfold numS; split <;> (intro h; cases h))
theorem slash_none {c : UInt8} {r : List UInt8} (h : c.toNat = 47) : wordN (c :: r) = 0 ∧ runN isDig (c :: r) = 0 ∧ opN (c :: r) = 0 := by
  obtain rfl : c = 47 := UInt8.toNat_inj.1 h
  refine ⟨by rw [wordN_cons, if_neg (by decide)], by rw [runN_cons, if_neg (by decide)], ?_⟩
  refine opN_none (fun hm => ?_) (by decide)
  have hl := twos_two _ hm
  cases r with
  | nil => simp at hl
  | cons d r =>
    simp only [List.take_succ_cons, List.take_zero, twosL, List.mem_cons, List.cons.injEq, List.not_mem_nil, or_false] at hm
    rcases hm with h | h | h | h | h | h <;> exact absurd h.1 (by decide)
theorem isBl_x {c : UInt8} {x : Int} (hx : x = (c.toNat : Int)) : isBl c = true ↔ x = 32 ∨ x = 9 ∨ x = 10 := by
  simp only [isBl, Bool.or_eq_true, decide_eq_true_eq]; omega
theorem ext_at {s : ByteArray} {i n : Nat} (h : i + n ≤ s.size) : (s.extract i (i + n)).data.toList = (s.data.toList.drop i).take n ∧ (s.extract i (i + n)).size = n := by
  have e : (s.extract i (i + n)).data.toList = (s.data.toList.drop i).take n := by rw [Lib.extract_data, Nat.add_sub_cancel_left]
  exact ⟨e, by rw [← size_l, e, List.length_take, List.length_drop, size_l]; omega⟩
theorem big_cmp {t : ByteArray} (hD : allD t.data.toList) (hl : t.data.toList.length = 10) (W : World) : (binOp .gtr 9 (.string t) (.string ⟨#[49, 48, 55, 51, 55, 52, 49, 56, 50, 52]⟩)).run Tryd.prog W = .ok (.bool (decide (1073741824 < valD t.data.toList 0))) W := by
  have e : binOp .gtr 9 (.string t) (.string ⟨#[49, 48, 55, 51, 55, 52, 49, 56, 50, 52]⟩) = pure (.bool !(Op.bytesLess t.toList (⟨#[49, 48, 55, 51, 55, 52, 49, 56, 50, 52]⟩ : ByteArray).toList || t.toList == (⟨#[49, 48, 55, 51, 55, 52, 49, 56, 50, 52]⟩ : ByteArray).toList)) := by simp [binOp, Op.stringOp]
  have h := less_val t.data.toList [49, 48, 55, 51, 55, 52, 49, 56, 50, 52] (by rw [hl]; rfl) hD (by unfold allD; decide) 0
  have hv : valD [49, 48, 55, 51, 55, 52, 49, 56, 50, 52] 0 = 1073741824 := by decide
  rw [hv] at h
  rw [e, Lib.toList_data, Lib.toList_data]
  have hb : Op.bytesLess t.data.toList [49, 48, 55, 51, 55, 52, 49, 56, 50, 52] = decide (valD t.data.toList 0 < 1073741824) := by rw [Bool.eq_iff_iff, decide_eq_true_eq]; exact h.1
  have hq : (t.data.toList == [49, 48, 55, 51, 55, 52, 49, 56, 50, 52]) = decide (valD t.data.toList 0 = 1073741824) := by rw [Bool.eq_iff_iff, decide_eq_true_eq, beq_iff_eq]; exact h.2
  show Result.ok (Value.bool !(Op.bytesLess t.data.toList [49, 48, 55, 51, 55, 52, 49, 56, 50, 52] || t.data.toList == [49, 48, 55, 51, 55, 52, 49, 56, 50, 52])) W = _
  rw [hb, hq]
  generalize valD t.data.toList 0 = V
  rcases Nat.lt_trichotomy V 1073741824 with h1 | h1 | h1
  · rw [decide_eq_true h1, decide_eq_false (show ¬ 1073741824 < V by omega)]; rfl
  · rw [decide_eq_false (show ¬ V < 1073741824 by omega), decide_eq_true h1, decide_eq_false (show ¬ 1073741824 < V by omega)]; rfl
  · rw [decide_eq_false (show ¬ V < 1073741824 by omega), decide_eq_false (show ¬ V = 1073741824 by omega), decide_eq_true h1]; rfl
def RScanEnd (r : Int × Int × List Tok) (w : World) (e : Ending) (w' : World) : Prop :=
  ∃ v, e = .returned (.tuple #[v, .int .i64 r.1, .int .i64 r.2.1]) ∧ TRow w.heap.size r.2.2 v w' ∧ Below w.heap.size w w'
end Go.Proofs.YtceknhhdgmappaaDoor
