/- The bits of a number's groups. -/
import Derived.Test.YtgaipfkblfommaaPakP
set_option linter.unusedVariables false
namespace Go.Proofs.Ytgaipfkblfommaa
open Go.RowKit
theorem p128 (k : Nat) : (2 : Nat) ^ (7 * k) = 128 ^ k := by rw [Nat.pow_mul]
theorem acc_lt {acc x k : Nat} (hacc : acc < 128 ^ k) (hx : x < 128) : acc + x * 128 ^ k < 128 ^ (k + 1) := by
  rw [Nat.pow_succ]
  have : x * 128 ^ k ≤ 127 * 128 ^ k := Nat.mul_le_mul_right _ (by omega)
  omega
theorem all_lt {acc x k : Nat} (hacc : acc < 128 ^ k) (hk : k ≤ 9) (hx : x < 128) (h9 : k = 9 → x ≤ 1) : acc + x * 128 ^ k < 18446744073709551616 := by
  by_cases h : k = 9
  · subst h
    have := h9 rfl
    have e : (128 : Nat) ^ 9 = 9223372036854775808 := by decide
    rw [e] at hacc ⊢
    omega
  · have h1 := acc_lt hacc hx
    have h2 : (128 : Nat) ^ (k + 1) ≤ 128 ^ 9 := Nat.pow_le_pow_right (by decide) (by omega)
    have e : (128 : Nat) ^ 9 = 9223372036854775808 := by decide
    omega
theorem or_group (acc x k : Nat) (hacc : acc < 128 ^ k) (hk : k ≤ 9) (hx : x < 128) (h9 : k = 9 → x ≤ 1) :
    bits .or .u64 (acc : Int) (IntKind.u64.wrap ((x : Int) * 2 ^ (7 * k))) = ((acc + x * 128 ^ k : Nat) : Int) := by
  have hall := all_lt hacc hk hx h9
  have e1 : (x : Int) * 2 ^ (7 * k) = ((x * 128 ^ k : Nat) : Int) := by
    rw [← p128]; push_cast; rfl
  have e2 : IntKind.u64.wrap ((x : Int) * 2 ^ (7 * k)) = ((x * 128 ^ k : Nat) : Int) := by
    rw [e1]; exact wraps_u64 _ (by omega) (by have : (2 : Int) ^ 64 = 18446744073709551616 := by decide
                                              omega)
  rw [e2]
  have h := bits_join_low .u64 64 (by decide) wraps_u64 (7 * k) (acc : Int) ((x * 128 ^ k : Nat) : Int) (by omega) (by
    have : ((2 : Int) ^ (7 * k)) = ((128 ^ k : Nat) : Int) := by rw [← p128]; push_cast; rfl
    rw [this]; omega) (by omega) (by omega) (by
    have : ((2 : Int) ^ (7 * k)) = ((128 ^ k : Nat) : Int) := by rw [← p128]; push_cast; rfl
    rw [this]
    have : (((x * 128 ^ k : Nat) : Int)) = (x : Int) * ((128 ^ k : Nat) : Int) := by push_cast; rfl
    rw [this]
    exact Int.mul_emod_left _ _) (by have : (2 : Int) ^ 64 = 18446744073709551616 := by decide
                                     omega)
  rw [h]
  push_cast
  rfl
theorem unzig_odd (A : Nat) (hA : A < 18446744073709551616) (h : A % 2 = 1) : wrap64 (bits .xor .u64 IntKind.u64.max ((A : Int) / 2)) = unzig A ∧ i64 (unzig A) := by
  have e2 : IntKind.u64.max = ((2 ^ 64 - 1 : Nat) : Int) := by decide
  have e3 : ((A : Int) / 2) = ((A / 2 : Nat) : Int) := rfl
  have e4 : bits .xor .u64 IntKind.u64.max ((A : Int) / 2) = ((2 ^ 64 - 1 - A / 2 : Nat) : Int) := by
    rw [e2, e3, bits_xor_u64_nat _ _ (by decide) (by omega), Lib.xor_ones64 _ (by omega)]
  rw [e4]
  unfold unzig i64
  rw [if_pos h]
  refine ⟨?_, by omega⟩
  unfold wrap64
  omega
theorem unzig_even (A : Nat) (hA : A < 18446744073709551616) (h : ¬ A % 2 = 1) : wrap64 ((A : Int) / 2) = unzig A ∧ i64 (unzig A) := by
  unfold unzig i64
  rw [if_neg h]
  refine ⟨?_, by omega⟩
  unfold wrap64
  omega
end Go.Proofs.Ytgaipfkblfommaa
