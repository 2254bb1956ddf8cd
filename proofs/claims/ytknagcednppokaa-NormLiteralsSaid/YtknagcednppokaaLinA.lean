/- Contracts of the small functions of layer 1: whether a number is within bounds, whether a term may stand. -/
import Derived.Test.YtknagcednppokaaProg
import Derived.WalkKit
import Derived.WalkSpells
import Derived.WalkLawsBesides
import Derived.Lib.Hide
import Derived.Deep.QuietTactic
import Derived.BigQuiet
namespace Go.Proofs.Ytknagcednppokaa
open Go.RowKit

theorem ret_int {k : IntKind} {a b : Int} (h : a = b) : Ending.returned (.int k a) = Ending.returned (.int k b) := by rw [h]
theorem ret_bool {a b : Bool} (h : a = b) : Ending.returned (.bool a) = Ending.returned (.bool b) := by rw [h]

theorem bcell {W w1 : World} (hb : Below W.heap.size W w1) : (∀ b o, b < W.heap.size → w1.cell? ⟨b, o, none⟩ = W.cell? ⟨b, o, none⟩) ∧ (∀ b o, b < W.heap.size → w1.frozen? ⟨b, o, none⟩ = W.frozen? ⟨b, o, none⟩) :=
  ⟨fun b o h => hb.cell (p := ⟨b, o, none⟩) h, fun b o h => hb.frozen (p := ⟨b, o, none⟩) h⟩

def wi (n m : Int) : Bool := decide (-m ≤ n ∧ n ≤ m)
theorem wi_t {n m : Int} (h : -m ≤ n ∧ n ≤ m) : wi n m = true := by unfold wi; exact decide_eq_true h
theorem wi_f {n m : Int} (h : ¬ (-m ≤ n ∧ n ≤ m)) : wi n m = false := by unfold wi; exact decide_eq_false h

set_option maxHeartbeats 400000 in
theorem within_any (n m : Int) (w : World) (h0 : 0 ≤ m) (h1 : m ≤ 4294967296) :
    Calls Try.prog 46 #[.int .i64 n, .int .i64 m] w fun e w' => e = .returned (.bool (wi n m)) ∧ w = w' := by
  by_cases a : -m ≤ n
  · by_cases b : n ≤ m
    · rw [wi_t ⟨a, b⟩]
      go_enter Try.func46, Try.ntmps46
      go_wp2
      go_ret
      exact ⟨rfl, rfl⟩
    · rw [wi_f (by omega)]
      go_enter Try.func46, Try.ntmps46
      go_wp2
      go_ret
      exact ⟨rfl, rfl⟩
  · rw [wi_f (by omega)]
    go_enter Try.func46, Try.ntmps46
    go_wp2
    go_ret
    exact ⟨rfl, rfl⟩

set_option maxHeartbeats 400000 in
theorem coef_any (n : Int) (w : World) :
    Calls Try.prog 32 #[.int .i64 n] w fun e w' => e = .returned (.bool (wi n 1073741824)) ∧ w = w' := by
  by_cases a : -1073741824 ≤ n
  · by_cases b : n ≤ 1073741824
    · rw [wi_t ⟨a, b⟩]
      go_enter Try.func32, Try.ntmps32
      go_wp2
      go_ret
      exact ⟨rfl, rfl⟩
    · rw [wi_f (by omega)]
      go_enter Try.func32, Try.ntmps32
      go_wp2
      go_ret
      exact ⟨rfl, rfl⟩
  · rw [wi_f (by omega)]
    go_enter Try.func32, Try.ntmps32
    go_wp2
    go_ret
    exact ⟨rfl, rfl⟩
end Go.Proofs.Ytknagcednppokaa
