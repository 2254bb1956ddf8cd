/- Runs of runes are runs of bytes. -/
import Derived.Test.YtceknhhdgmappaaDoorScnB
set_option linter.unusedVariables false
set_option linter.unusedSimpArgs false
namespace Go.Proofs.YtceknhhdgmappaaDoor

theorem size_l (s : ByteArray) : s.data.toList.length = s.size := by rw [Array.length_toList]; rfl
theorem get_l (s : ByteArray) (i : Nat) (h : i < s.size) : s[i]'h = s.data.toList[i]'(by rw [size_l]; exact h) := rfl
theorem get_bang (s : ByteArray) (i : Nat) (h : i < s.size) : s.get! i = s[i]'h := by
  simp [ByteArray.get!, getElem!_pos, h]
  rfl
/-- The bytes of a rune beyond ASCII. -/
theorem decode_bytes (s : ByteArray) (pos : Nat) (h : pos < s.size) (ha : 128 ≤ (s[pos]'h).toNat) : pos + (Utf8.decode s pos).2 ≤ s.size ∧ ∀ j, j < (Utf8.decode s pos).2 → ∀ hj : pos + j < s.size, 128 ≤ (s[pos + j]'hj).toNat := by
  have e0 : s.get! (pos + 0) = s[pos]'h := get_bang s pos h
  have hn : ¬ (s[pos]'h).toNat < 128 := by omega
  have w1 : ∀ j, j < 1 → ∀ hj : pos + j < s.size, 128 ≤ (s[pos + j]'hj).toNat := fun j hj h2 => by
    obtain rfl : j = 0 := by omega
    exact ha
  have key : ∀ k, (decide (pos + k < s.size) && (s.get! (pos + k)).toNat / 64 == 2) = true → pos + k < s.size ∧ ∀ hj : pos + k < s.size, 128 ≤ (s[pos + k]'hj).toNat := fun k hk => by
    simp only [Bool.and_eq_true, decide_eq_true_eq, beq_iff_eq] at hk
    refine ⟨hk.1, fun hj => ?_⟩
    have h2 := hk.2
    rw [get_bang s _ hj] at h2
    omega
  simp only [Utf8.decode, e0, hn, if_false]
  split
  · next hc =>
    rw [Bool.and_eq_true] at hc
    obtain ⟨k1, k2⟩ := key 1 hc.2
    split
    · refine ⟨by simp only; omega, fun j hj h2 => ?_⟩
      simp only at hj
      rcases (by omega : j = 0 ∨ j = 1) with rfl | rfl
      · exact ha
      · exact k2 _
    · exact ⟨by simp only; omega, w1⟩
  · split
    · next hc =>
      rw [Bool.and_eq_true, Bool.and_eq_true] at hc
      obtain ⟨k1, k2⟩ := key 1 hc.1.2
      obtain ⟨m1, m2⟩ := key 2 hc.2
      split
      · refine ⟨by simp only; omega, fun j hj h2 => ?_⟩
        simp only at hj
        rcases (by omega : j = 0 ∨ j = 1 ∨ j = 2) with rfl | rfl | rfl
        · exact ha
        · exact k2 _
        · exact m2 _
      · exact ⟨by simp only; omega, w1⟩
    · split
      · next hc =>
        rw [Bool.and_eq_true, Bool.and_eq_true, Bool.and_eq_true] at hc
        obtain ⟨k1, k2⟩ := key 1 hc.1.1.2
        obtain ⟨m1, m2⟩ := key 2 hc.1.2
        obtain ⟨n1, n2⟩ := key 3 hc.2
        split
        · refine ⟨by simp only; omega, fun j hj h2 => ?_⟩
          simp only at hj
          rcases (by omega : j = 0 ∨ j = 1 ∨ j = 2 ∨ j = 3) with rfl | rfl | rfl | rfl
          · exact ha
          · exact k2 _
          · exact m2 _
          · exact n2 _
        · exact ⟨by simp only; omega, w1⟩
      · exact ⟨by simp only; omega, w1⟩
/-- A test of runes is one of bytes. -/
structure RuneBy (q : Int → Bool) (p : UInt8 → Bool) : Prop where
  low : ∀ c : UInt8, c.toNat < 128 → q (c.toNat : Int) = p c
  high : ∀ (r : Int) (c : UInt8), 128 ≤ r → 128 ≤ c.toNat → q r = p c
theorem runN_ge {p : UInt8 → Bool} {l : List UInt8} {k : Nat} (hk : k ≤ l.length) (h1 : ∀ j (h : j < l.length), j < k → p l[j] = true) : k ≤ runN p l := by
  refine Classical.byContradiction fun h => ?_
  have := runN_at (p := p) (l := l) (by omega)
  rw [h1 _ _ (by omega)] at this; cases this
theorem run_stop {q : Int → Bool} {p : UInt8 → Bool} (hq : RuneBy q p) (s : ByteArray) (pos : Nat) (h : pos < s.size) (hp : pos ≤ runN p s.data.toList) (hf : q ((Utf8.decode s pos).1 : Nat) = false) : runN p s.data.toList = pos := by
  have hl := size_l s
  have hpf : p (s[pos]'h) = false := by
    by_cases ha : (s[pos]'h).toNat < 128
    · rw [decode_ascii s pos h ha] at hf
      rw [← hq.low _ ha]; exact hf
    · have := decode_high s pos h (by omega)
      rw [← hq.high ((Utf8.decode s pos).1 : Nat) _ (by omega) (by omega)]; exact hf
  refine runN_is (by omega) (fun j hj hjk => ?_) (fun _ => hpf)
  obtain ⟨_, h2⟩ := runN_lt (p := p) (l := s.data.toList) (k := j) (by omega)
  exact h2
theorem run_on {q : Int → Bool} {p : UInt8 → Bool} (hq : RuneBy q p) (s : ByteArray) (pos : Nat) (h : pos < s.size) (hp : pos ≤ runN p s.data.toList) (hf : q ((Utf8.decode s pos).1 : Nat) = true) : pos + (Utf8.decode s pos).2 ≤ runN p s.data.toList ∧ 1 ≤ (Utf8.decode s pos).2 ∧ pos + (Utf8.decode s pos).2 ≤ s.size := by
  have hl := size_l s
  by_cases ha : (s[pos]'h).toNat < 128
  · have e := decode_ascii s pos h ha
    rw [e] at hf ⊢
    refine ⟨runN_ge (by simp only; omega) fun j hj hjk => ?_, Nat.le_refl _, by simp only; omega⟩
    simp only at hjk
    by_cases hjp : j < pos
    · obtain ⟨_, h2⟩ := runN_lt (p := p) (l := s.data.toList) (k := j) (by omega)
      exact h2
    · obtain rfl : j = pos := by omega
      have := hq.low (s[j]'h) ha
      rw [← get_l s j h, ← this]; exact hf
  · have hw := decode_high s pos h (by omega)
    obtain ⟨b1, b2⟩ := decode_bytes s pos h (by omega)
    refine ⟨runN_ge (by omega) fun j hj hjk => ?_, hw.2, b1⟩
    by_cases hjp : j < pos
    · obtain ⟨_, h2⟩ := runN_lt (p := p) (l := s.data.toList) (k := j) (by omega)
      exact h2
    · have hj2 : j < s.size := by omega
      obtain ⟨d, rfl⟩ : ∃ d, j = pos + d := ⟨j - pos, by omega⟩
      have h3 := b2 d (by omega) hj2
      rw [← get_l s (pos + d) hj2, ← hq.high ((Utf8.decode s pos).1 : Nat) _ (by omega) h3]
      exact hf
theorem run_fin {p : UInt8 → Bool} (s : ByteArray) (pos : Nat) (h : ¬ pos < s.size) (hp : pos ≤ runN p s.data.toList) : runN p s.data.toList = s.size := by
  have := runN_le p s.data.toList
  rw [size_l] at this
  omega
def qBl (r : Int) : Bool := decide (r = 32) || decide (r = 9) || decide (r = 10)
def qDig (r : Int) : Bool := decide (48 ≤ r) && decide (r ≤ 57)
def qIn (r : Int) : Bool := (decide (97 ≤ r) && decide (r ≤ 122)) || (decide (65 ≤ r) && decide (r ≤ 90)) || decide (r = 95) || qDig r
def qNl (r : Int) : Bool := !decide (r = 10)
theorem byBl : RuneBy qBl isBl := ⟨fun c h => by simp only [qBl, isBl]; rw [Bool.eq_iff_iff]; simp only [Bool.or_eq_true, decide_eq_true_eq]; omega, fun r c h1 h2 => by simp only [qBl, isBl]; rw [Bool.eq_iff_iff]; simp only [Bool.or_eq_true, decide_eq_true_eq]; omega⟩
theorem byDig : RuneBy qDig isDig := ⟨fun c h => by simp only [qDig, isDig]; rw [Bool.eq_iff_iff]; simp only [Bool.and_eq_true, decide_eq_true_eq]; omega, fun r c h1 h2 => by simp only [qDig, isDig]; rw [Bool.eq_iff_iff]; simp only [Bool.and_eq_true, decide_eq_true_eq]; omega⟩
theorem byIn : RuneBy qIn isIn := ⟨fun c h => by simp only [qIn, qDig, isIn, isLet, isDig]; rw [Bool.eq_iff_iff]; simp only [Bool.or_eq_true, Bool.and_eq_true, decide_eq_true_eq]; omega, fun r c h1 h2 => by simp only [qIn, qDig, isIn, isLet, isDig]; rw [Bool.eq_iff_iff]; simp only [Bool.or_eq_true, Bool.and_eq_true, decide_eq_true_eq]; omega⟩
theorem byNl : RuneBy qNl notNl := ⟨fun c h => by simp only [qNl, notNl]; rw [Bool.eq_iff_iff]; simp only [Bool.not_eq_true', decide_eq_false_iff_not]; omega, fun r c h1 h2 => by simp only [qNl, notNl]; rw [Bool.eq_iff_iff]; simp only [Bool.not_eq_true', decide_eq_false_iff_not]; omega⟩
end Go.Proofs.YtceknhhdgmappaaDoor
