/- Bytes, words, numbers, operations: plain functions of lists of bytes. -/
import Derived.Lib.AtoiAll
import Derived.Laws.RangeAny
import GoSem.Op.String
set_option linter.unusedVariables false
set_option linter.unusedSimpArgs false
namespace Go.Proofs.YtceknhhdgmappaaDoor

def isDig (c : UInt8) : Bool := decide (48 ≤ c.toNat) && decide (c.toNat ≤ 57)
def isLet (c : UInt8) : Bool := decide (c.toNat = 95) || (decide (97 ≤ c.toNat) && decide (c.toNat ≤ 122)) || (decide (65 ≤ c.toNat) && decide (c.toNat ≤ 90))
def isIn (c : UInt8) : Bool := isLet c || isDig c
def isBl (c : UInt8) : Bool := decide (c.toNat = 32) || decide (c.toNat = 9) || decide (c.toNat = 10)
def notNl (c : UInt8) : Bool := !decide (c.toNat = 10)
def runN (p : UInt8 → Bool) (l : List UInt8) : Nat := (l.takeWhile p).length
theorem runN_nil (p : UInt8 → Bool) : runN p [] = 0 := rfl
theorem runN_cons (p : UInt8 → Bool) (c : UInt8) (l : List UInt8) : runN p (c :: l) = if p c then runN p l + 1 else 0 := by
  unfold runN
  rw [List.takeWhile_cons]
  split <;> simp
theorem runN_le (p : UInt8 → Bool) (l : List UInt8) : runN p l ≤ l.length := by
  induction l with
  | nil => exact Nat.le_refl _
  | cons c l ih => rw [runN_cons, List.length_cons]; split <;> omega
theorem runN_lt {p : UInt8 → Bool} {l : List UInt8} {k : Nat} (h : k < runN p l) : ∃ hk : k < l.length, p l[k] = true := by
  induction l generalizing k with
  | nil => rw [runN_nil] at h; omega
  | cons c l ih =>
    rw [runN_cons] at h
    split at h
    · next hc =>
      cases k with
      | zero => exact ⟨by simp, hc⟩
      | succ k => obtain ⟨h1, h2⟩ := ih (k := k) (by omega); exact ⟨by simp; omega, by simpa using h2⟩
    · omega
theorem runN_at {p : UInt8 → Bool} {l : List UInt8} (h : runN p l < l.length) : p (l[runN p l]) = false := by
  induction l with
  | nil => simp at h
  | cons c l ih =>
    have e := runN_cons p c l
    by_cases hc : p c = true
    · rw [if_pos hc] at e
      have h2 : runN p l < l.length := by rw [e] at h; simp at h; omega
      have := ih h2
      simp only [e, List.getElem_cons_succ]
      exact this
    · rw [if_neg hc] at e
      simp only [e, List.getElem_cons_zero]
      simpa using hc
/-- How many it is, by what stands there. -/
theorem runN_is {p : UInt8 → Bool} {l : List UInt8} {k : Nat} (hk : k ≤ l.length) (h1 : ∀ j (h : j < l.length), j < k → p l[j] = true) (h2 : ∀ h : k < l.length, p l[k] = false) : runN p l = k := by
  rcases Nat.lt_trichotomy (runN p l) k with h | h | h
  · have := runN_at (p := p) (l := l) (by omega)
    rw [h1 _ _ h] at this; cases this
  · exact h
  · obtain ⟨a, b⟩ := runN_lt h
    rw [h2 a] at b; cases b
theorem runN_mono {p q : UInt8 → Bool} (hpq : ∀ c, p c = true → q c = true) (l : List UInt8) : runN p l ≤ runN q l := by
  induction l with
  | nil => exact Nat.le_refl _
  | cons c l ih =>
    rw [runN_cons, runN_cons]
    by_cases h : p c = true
    · rw [if_pos h, if_pos (hpq c h)]; omega
    · rw [if_neg h]; omega
theorem runN_drop {p : UInt8 → Bool} {l : List UInt8} {k : Nat} (h : k ≤ runN p l) : runN p (l.drop k) = runN p l - k := by
  induction l generalizing k with
  | nil => rw [List.drop_nil, runN_nil]; omega
  | cons c l ih =>
    cases k with
    | zero => simp
    | succ k =>
      rw [runN_cons] at h ⊢
      split at h
      · next hc => rw [if_pos hc, List.drop_succ_cons, ih (by omega)]; omega
      · omega
/-- How many bytes of a name a list begins with. -/
def wordN (l : List UInt8) : Nat := if runN isDig l > 0 then 0 else runN isIn l
theorem dig_pos {c : UInt8} {l : List UInt8} : 0 < runN isDig (c :: l) ↔ isDig c = true := by
  rw [runN_cons]; split <;> simp_all
theorem wordN_nil : wordN [] = 0 := rfl
theorem wordN_cons (c : UInt8) (l : List UInt8) : wordN (c :: l) = if isLet c then runN isIn l + 1 else 0 := by
  unfold wordN
  by_cases hd : isDig c = true
  · rw [if_pos (dig_pos.2 hd)]
    have : isLet c = false := by
      simp only [isDig, isLet, Bool.and_eq_true, decide_eq_true_eq] at hd ⊢
      simp only [Bool.or_eq_false_iff, Bool.and_eq_false_iff, decide_eq_false_iff_not]
      omega
    rw [this]; rfl
  · rw [if_neg (fun h => hd (dig_pos.1 h)), runN_cons]
    have : isIn c = isLet c := by unfold isIn; simp only [Bool.not_eq_true] at hd; rw [hd, Bool.or_false]
    rw [this]
theorem wordN_le (l : List UInt8) : wordN l ≤ l.length := by
  unfold wordN; split
  · omega
  · exact runN_le _ _
/-- May a byte stand at a name's place k? -/
def nameAt (k : Nat) (c : UInt8) : Bool := isLet c || (decide (0 < k) && isDig c)
theorem wordN_lt {l : List UInt8} {k : Nat} (h : k < wordN l) : ∃ hk : k < l.length, nameAt k l[k] = true := by
  cases l with
  | nil => rw [wordN_nil] at h; omega
  | cons c l =>
    rw [wordN_cons] at h
    split at h
    · next hc =>
      cases k with
      | zero => exact ⟨by simp, by simp [nameAt, hc]⟩
      | succ k =>
        obtain ⟨h1, h2⟩ := runN_lt (p := isIn) (l := l) (k := k) (by omega)
        exact ⟨by simp; omega, by simpa [nameAt, isIn] using h2⟩
    · omega
theorem wordN_at {l : List UInt8} (h : wordN l < l.length) : nameAt (wordN l) (l[wordN l]) = false := by
  cases l with
  | nil => simp at h
  | cons c l =>
    have e := wordN_cons c l
    by_cases hc : isLet c = true
    · rw [if_pos hc] at e
      have h2 : runN isIn l < l.length := by rw [e] at h; simp at h; omega
      have := runN_at h2
      simp only [e, List.getElem_cons_succ, nameAt]
      simpa [isIn] using this
    · rw [if_neg hc] at e
      simp only [e, List.getElem_cons_zero, nameAt]
      simpa using hc
/-- A number's digits' value. -/
def valD (l : List UInt8) (acc : Nat) : Nat := l.foldl (fun a c => a * 10 + (c.toNat - 48)) acc
def allD (l : List UInt8) : Prop := ∀ c ∈ l, isDig c = true
theorem dig_in {c : UInt8} (h : isDig c = true) : 48 ≤ c.toNat ∧ c.toNat ≤ 57 := by
  simpa [isDig] using h
theorem valD_cons (c : UInt8) (l : List UInt8) (acc : Nat) : valD (c :: l) acc = valD l (acc * 10 + (c.toNat - 48)) := by unfold valD; rw [List.foldl_cons]
theorem valD_ge (l : List UInt8) (acc : Nat) : acc * 10 ^ l.length ≤ valD l acc := by
  induction l generalizing acc with
  | nil => simp [valD]
  | cons c l ih =>
    rw [valD_cons, List.length_cons, Nat.pow_succ]
    have := ih (acc * 10 + (c.toNat - 48))
    refine Nat.le_trans ?_ this
    rw [Nat.mul_comm (10 ^ l.length) 10, ← Nat.mul_assoc]
    exact Nat.mul_le_mul_right _ (by omega)
theorem valD_lt (l : List UInt8) (acc : Nat) (h : allD l) : valD l acc < (acc + 1) * 10 ^ l.length := by
  induction l generalizing acc with
  | nil => simp [valD]
  | cons c l ih =>
    rw [valD_cons, List.length_cons, Nat.pow_succ]
    have hc := dig_in (h c (by simp))
    have := ih (acc * 10 + (c.toNat - 48)) (fun x hx => h x (by simp [hx]))
    refine Nat.lt_of_lt_of_le this ?_
    rw [Nat.mul_comm (10 ^ l.length) 10, ← Nat.mul_assoc]
    exact Nat.mul_le_mul_right _ (by omega)
theorem valD_mono (l : List UInt8) {a b : Nat} (h : a ≤ b) : valD l a ≤ valD l b := by
  induction l generalizing a b with
  | nil => exact h
  | cons c l ih => rw [valD_cons, valD_cons]; exact ih (by omega)
theorem valD_acc (l : List UInt8) (acc : Nat) : acc ≤ valD l acc := by
  have := valD_ge l acc
  have h1 : 1 ≤ 10 ^ l.length := Nat.one_le_pow _ _ (by omega)
  calc acc = acc * 1 := by omega
    _ ≤ acc * 10 ^ l.length := Nat.mul_le_mul_left _ h1
    _ ≤ _ := this
/-- What is small is parsed. -/
theorem parse_small {l : List UInt8} {acc : Nat} (h : allD l) (hs : valD l acc < 1000000000000000000) : Lib.parseUint10 acc l = .ok (valD l acc) := by
  induction l generalizing acc with
  | nil => rfl
  | cons c l ih =>
    have hc := dig_in (h c (by simp))
    rw [valD_cons] at hs ⊢
    have := valD_acc l (acc * 10 + (c.toNat - 48))
    simp only [Lib.parseUint10]
    rw [if_pos hc, if_neg (by omega), if_neg (by omega)]
    exact ih (fun x hx => h x (by simp [hx])) hs
theorem parse_ways {l : List UInt8} {acc : Nat} (h : allD l) : Lib.parseUint10 acc l = .range ∨ Lib.parseUint10 acc l = .ok (valD l acc) := by
  induction l generalizing acc with
  | nil => exact .inr rfl
  | cons c l ih =>
    simp only [Lib.parseUint10]
    rw [if_pos (dig_in (h c (by simp)))]
    split
    · exact .inl rfl
    · split
      · exact .inl rfl
      · exact ih (fun x hx => h x (by simp [hx]))
/-- Is a number's text too much, by the document? -/
def bigD (l : List UInt8) : Bool := decide (10 < l.length) || (decide (l.length = 10) && decide (1073741824 < valD l 0))
def numBad (l : List UInt8) (glued : Bool) : Bool := (decide (1 < l.length) && decide (l.head? = some 48)) || bigD l || glued
theorem allD_take (l : List UInt8) : allD (l.take (runN isDig l)) := fun c hc => by
  obtain ⟨i, hi, rfl⟩ := List.getElem_of_mem hc
  rw [List.length_take] at hi
  rw [List.getElem_take]
  obtain ⟨_, h⟩ := runN_lt (p := isDig) (l := l) (k := i) (by omega)
  exact h
/-- How strconv.Atoi ends on digits. -/
theorem atoi_digits {l : List UInt8} (h : allD l) (h0 : l ≠ []) : (Lib.atoiAll l = .range ∧ 1000000000000000000 ≤ valD l 0) ∨ (Lib.atoiAll l = .ok (valD l 0) ∧ valD l 0 < 9223372036854775808) := by
  cases l with
  | nil => exact absurd rfl h0
  | cons c r =>
    have hc := dig_in (h c (by simp))
    have e1 : ¬ (c.toNat = 43 ∨ c.toNat = 45) := by omega
    have e2 : ¬ c.toNat = 45 := by omega
    have em : Lib.parseMag (c :: r) = Lib.parseUint10 0 (c :: r) := by unfold Lib.parseMag; rw [if_neg (by simp)]
    unfold Lib.atoiAll
    simp only [if_neg e1, em]
    by_cases hs : valD (c :: r) 0 < 1000000000000000000
    · right
      rw [parse_small h hs]
      simp only [e2, not_false_eq_true, true_and, false_and, if_false]
      rw [if_neg (by omega)]
      exact ⟨rfl, by omega⟩
    · rcases parse_ways (acc := 0) h with hp | hp
      · left; rw [hp]; exact ⟨rfl, by omega⟩
      · rw [hp]
        simp only [e2, not_false_eq_true, true_and, false_and, if_false]
        by_cases hb : 9223372036854775808 ≤ valD (c :: r) 0
        · left; rw [if_pos hb]; exact ⟨rfl, by omega⟩
        · right; rw [if_neg hb]; exact ⟨rfl, by omega⟩
/-- A number whose first digit is none but 0 alone is too much just if its value is. -/
theorem bigD_val {l : List UInt8} (h : allD l) (h1 : ¬ (1 < l.length ∧ l.head? = some 48)) : bigD l = decide (1073741824 < valD l 0) := by
  unfold bigD
  by_cases hl : 10 < l.length
  · have : 1073741824 < valD l 0 := by
      cases l with
      | nil => simp at hl
      | cons c r =>
        have hc := dig_in (h c (by simp))
        have hne : c.toNat ≠ 48 := fun e => h1 ⟨by omega, by
          simp only [List.head?_cons, Option.some.injEq]
          exact UInt8.toNat_inj.1 e⟩
        rw [valD_cons]
        have h2 := valD_ge r (0 * 10 + (c.toNat - 48))
        have h3 : 10 ^ 10 ≤ 10 ^ r.length := Nat.pow_le_pow_right (by omega) (by simp at hl; omega)
        have h4 : 1 * 10 ^ 10 ≤ (0 * 10 + (c.toNat - 48)) * 10 ^ r.length := Nat.mul_le_mul (by omega) h3
        omega
    simp [hl, this]
  · by_cases he : l.length = 10
    · simp [he]
    · have h2 := valD_lt l 0 h
      have h3 : 10 ^ l.length ≤ 10 ^ 9 := Nat.pow_le_pow_right (by omega) (by omega)
      have : ¬ 1073741824 < valD l 0 := by omega
      simp [hl, he, this]
theorem less_lt : ∀ (a b : List UInt8), a.length = b.length → allD a → ∀ x y : Nat, x < y → valD a x < valD b y
  | [], [], _, _, x, y, h => h
  | [], _ :: _, h, _, _, _, _ => by simp at h
  | _ :: _, [], h, _, _, _, _ => by simp at h
  | c :: a, d :: b, h, ha, x, y, hxy => by
    have hc := dig_in (ha c (by simp))
    rw [valD_cons, valD_cons]
    exact less_lt a b (by simpa using h) (fun z hz => ha z (by simp [hz])) _ _ (by omega)
/-- Digits are compared as their values, where they are as many. -/
theorem less_val : ∀ (a b : List UInt8), a.length = b.length → allD a → allD b → ∀ x : Nat, (Op.bytesLess a b = true ↔ valD a x < valD b x) ∧ (a = b ↔ valD a x = valD b x)
  | [], [], _, _, _, x => ⟨by simp [Op.bytesLess, valD], by simp⟩
  | [], _ :: _, h, _, _, _ => by simp at h
  | _ :: _, [], h, _, _, _ => by simp at h
  | c :: a, d :: b, h, ha, hb, x => by
    have hc := dig_in (ha c (by simp))
    have hd := dig_in (hb d (by simp))
    have hl : a.length = b.length := by simpa using h
    have ha2 : allD a := fun z hz => ha z (by simp [hz])
    have hb2 : allD b := fun z hz => hb z (by simp [hz])
    rw [valD_cons, valD_cons]
    have hlt : (c < d) ↔ c.toNat < d.toNat := UInt8.lt_iff_toNat_lt
    rcases Nat.lt_trichotomy c.toNat d.toNat with h1 | h1 | h1
    · have h2 := less_lt a b hl ha2 (x * 10 + (c.toNat - 48)) (x * 10 + (d.toNat - 48)) (by omega)
      have e1 : ¬ c = d := fun e => by rw [e] at h1; omega
      exact ⟨by simp [Op.bytesLess, hlt, h1, h2], by simp [e1]; omega⟩
    · have e1 : c = d := UInt8.toNat_inj.1 h1
      subst e1
      obtain ⟨i1, i2⟩ := less_val a b hl ha2 hb2 (x * 10 + (c.toNat - 48))
      refine ⟨?_, ?_⟩
      · simp only [Op.bytesLess, beq_self_eq_true, Bool.true_and]
        have e2 : (decide (c < c)) = false := by simp [hlt]
        rw [e2, Bool.false_or]
        exact i1
      · simpa using i2
    · have h2 := less_lt b a hl.symm hb2 (x * 10 + (d.toNat - 48)) (x * 10 + (c.toNat - 48)) (by omega)
      have e1 : ¬ c = d := fun e => by rw [e] at h1; omega
      refine ⟨?_, by simp [e1]; omega⟩
      simp only [Op.bytesLess, Bool.or_eq_true, decide_eq_true_eq, Bool.and_eq_true, beq_iff_eq]
      constructor
      · rintro (h3 | h3)
        · exact absurd (hlt.1 h3) (by omega)
        · exact absurd h3.1 e1
      · intro h3; omega
end Go.Proofs.YtceknhhdgmappaaDoor
