/- Keys and operations, found in their lists. -/
import Derived.Test.YtceknhhdgmappaaDoorScnC
set_option linter.unusedVariables false
set_option linter.unusedSimpArgs false
namespace Go.Proofs.YtceknhhdgmappaaDoor

theorem keys_len : keysL.length = 19 := rfl
theorem keyB_hit {l : List UInt8} {i : Nat} (hi : i < keysL.length) (h : keysL[i] = l) : keyB l = true := by
  unfold keyB
  rw [List.contains_iff_mem, ← h]
  exact List.getElem_mem hi
theorem keyB_miss {l : List UInt8} (h : ∀ i (hi : i < keysL.length), keysL[i] ≠ l) : keyB l = false := by
  unfold keyB
  rw [Bool.eq_false_iff, ne_eq, List.contains_iff_mem]
  intro hm
  obtain ⟨i, hi, e⟩ := List.getElem_of_mem hm
  exact h i hi e
theorem twos_len : twosL.length = 6 := rfl
theorem ones_len : onesL.length = 15 := rfl
theorem ops_len : opsL.length = 21 := rfl
theorem twos_two : ∀ x ∈ twosL, x.length = 2 := by decide
theorem ops_two {i : Nat} (h : i < twosL.length) (h2 : i < opsL.length) : opsL[i] = twosL[i] := by
  simp only [opsL]; rw [List.getElem_append_left h]
theorem ops_one {i : Nat} (h : i < onesL.length) (h2 : i + 6 < opsL.length) : opsL[i + 6] = [onesL[i]] := by
  simp only [opsL]
  rw [List.getElem_append_right (by rw [twos_len]; omega)]
  simp [twos_len]
theorem ops_1_2 {i : Nat} (h : i < opsL.length) : 1 ≤ (opsL[i]).length ∧ (opsL[i]).length ≤ 2 := by
  rcases Nat.lt_or_ge i 6 with h6 | h6
  · rw [ops_two (by rw [twos_len]; exact h6) h, twos_two _ (List.getElem_mem _)]; omega
  · obtain ⟨k, rfl⟩ : ∃ k, i = k + 6 := ⟨i - 6, by omega⟩
    rw [ops_one (by rw [ones_len]; rw [ops_len] at h; omega) h]; simp
theorem opN_two {l : List UInt8} (h : l.take 2 ∈ twosL) : opN l = 2 := by
  unfold opN; rw [if_pos (List.contains_iff_mem.2 h)]
theorem opN_one {c : UInt8} {l : List UInt8} (h : (c :: l).take 2 ∉ twosL) (h1 : c ∈ onesL) : opN (c :: l) = 1 := by
  unfold opN
  rw [if_neg (fun e => h (List.contains_iff_mem.1 e))]
  simp only []
  rw [if_pos (List.contains_iff_mem.2 h1)]
theorem opN_none {c : UInt8} {l : List UInt8} (h : (c :: l).take 2 ∉ twosL) (h1 : c ∉ onesL) : opN (c :: l) = 0 := by
  unfold opN
  rw [if_neg (fun e => h (List.contains_iff_mem.1 e))]
  simp only []
  rw [if_neg (fun e => h1 (List.contains_iff_mem.1 e))]
theorem not_two {l : List UInt8} {i : Nat} (h6 : 6 ≤ i) (hno : ∀ j (h : j < opsL.length), j < i → l.take (opsL[j]).length ≠ opsL[j]) : l.take 2 ∉ twosL := fun hm => by
  obtain ⟨j, hj, e⟩ := List.getElem_of_mem hm
  have hj2 : j < opsL.length := by rw [ops_len]; rw [twos_len] at hj; omega
  refine hno j hj2 (by rw [twos_len] at hj; omega) ?_
  rw [ops_two hj hj2, twos_two _ (List.getElem_mem _), e]
theorem opN_hit {l : List UInt8} {i : Nat} (hi : i < opsL.length) (hp : l.take (opsL[i]).length = opsL[i]) (hno : ∀ j (h : j < opsL.length), j < i → l.take (opsL[j]).length ≠ opsL[j]) : opN l = (opsL[i]).length ∧ l.take (opN l) = opsL[i] := by
  have key : opN l = (opsL[i]).length := by
    rcases Nat.lt_or_ge i 6 with h6 | h6
    · have e := ops_two (by rw [twos_len]; exact h6) hi
      rw [e, twos_two _ (List.getElem_mem _)] at hp
      rw [e, twos_two _ (List.getElem_mem _)]
      exact opN_two (by rw [hp]; exact List.getElem_mem _)
    · have hn := not_two h6 hno
      obtain ⟨k, rfl⟩ : ∃ k, i = k + 6 := ⟨i - 6, by omega⟩
      have hk : k < onesL.length := by rw [ones_len]; rw [ops_len] at hi; omega
      rw [ops_one hk hi] at hp
      rw [ops_one hk hi]
      cases l with
      | nil => cases hp
      | cons c r =>
        simp only [List.length_cons, List.length_nil, Nat.zero_add, List.take_succ_cons, List.take_zero, List.cons.injEq, and_true] at hp
        exact opN_one hn (by rw [hp]; exact List.getElem_mem _)
  exact ⟨key, by rw [key]; exact hp⟩
theorem opN_miss {l : List UInt8} (hno : ∀ j (h : j < opsL.length), l.take (opsL[j]).length ≠ opsL[j]) : opN l = 0 := by
  cases l with
  | nil => rfl
  | cons c r =>
    refine opN_none (not_two (i := 21) (by omega) (fun j h _ => hno j h)) (fun hm => ?_)
    obtain ⟨k, hk, e⟩ := List.getElem_of_mem hm
    have hk2 : k + 6 < opsL.length := by rw [ops_len]; rw [ones_len] at hk; omega
    refine hno (k + 6) hk2 ?_
    rw [ops_one hk hk2]
    simp [e]
theorem opN_le (l : List UInt8) : opN l ≤ 2 := by
  unfold opN
  split
  · exact Nat.le_refl _
  · split
    · omega
    · split <;> omega
theorem opN_len (l : List UInt8) : opN l ≤ l.length := by
  unfold opN
  split
  · next h =>
    have := twos_two _ (List.contains_iff_mem.1 h)
    rw [List.length_take] at this; omega
  · split
    · omega
    · split <;> simp
/-! A place's step, by what stands there. -/
theorem stp_word {l : List UInt8} (hs : NoSkip l) (h : 0 < wordN l) : stp l = if 32 < wordN l then .bad 2 else .tok (if keyB (l.take (wordN l)) then 2 else 1) (wordN l) := by
  cases l with
  | nil => rw [wordN_nil] at h; omega
  | cons c r =>
    have h1 : isBl c = false := by
      cases hb : isBl c with
      | false => rfl
      | true => exact absurd (by rw [stp, if_pos hb]) (hs 1)
    have h2 : ¬ (c.toNat = 47 ∧ r.head? = some 47) := fun hc => absurd (by rw [stp, h1, if_neg (by simp), if_pos hc]) (hs (runN notNl (c :: r)))
    rw [stp, h1, if_neg (by simp), if_neg h2, if_pos h]
theorem stp_num {l : List UInt8} (hs : NoSkip l) (h : wordN l = 0) (h2 : 0 < runN isDig l) : stp l = numS l := by
  cases l with
  | nil => rw [runN_nil] at h2; omega
  | cons c r =>
    have h1 : isBl c = false := by
      cases hb : isBl c with
      | false => rfl
      | true => exact absurd (by rw [stp, if_pos hb]) (hs 1)
    have h3 : ¬ (c.toNat = 47 ∧ r.head? = some 47) := fun hc => absurd (by rw [stp, h1, if_neg (by simp), if_pos hc]) (hs (runN notNl (c :: r)))
    rw [stp, h1, if_neg (by simp), if_neg h3, if_neg (by omega), if_neg (by omega), if_pos h2]
theorem stp_op {l : List UInt8} (hne : l ≠ []) (hs : NoSkip l) (h : wordN l = 0) (h2 : runN isDig l = 0) : stp l = if opN l = 0 then .bad 10 else .tok 4 (opN l) := by
  cases l with
  | nil => exact absurd rfl hne
  | cons c r =>
    have h1 : isBl c = false := by
      cases hb : isBl c with
      | false => rfl
      | true => exact absurd (by rw [stp, if_pos hb]) (hs 1)
    have h3 : ¬ (c.toNat = 47 ∧ r.head? = some 47) := fun hc => absurd (by rw [stp, h1, if_neg (by simp), if_pos hc]) (hs (runN notNl (c :: r)))
    rw [stp, h1, if_neg (by simp), if_neg h3, if_neg (by omega), if_neg (by omega), if_neg (by omega)]
end Go.Proofs.YtceknhhdgmappaaDoor
