/- What Make answers, the document's and the program's. -/
import Derived.Test.YtnefolkhoeocjaaLinRM
import Derived.Test.YtnefolkhoeocjaaLinK5
import Derived.Test.YtnefolkhoeocjaaLinT
namespace Go.Proofs.Ytnefolkhoeocjaa
open Go.RowKit

theorem farB_eq {l R : List (Int × Int)} (c : Int) (hR : IsSum l R) (hV : ∀ m ∈ l, 0 ≤ m.1 ∧ m.1 < 1048576) : farB c R 1048576 = !(wi c 1073741824 && R.all fun m => wi m.2 1073741824) := by
  unfold farB okTo
  rw [upTo_end hR (fun m hm => by have := hV m hm; omega)]
theorem rAns_far1 {l R : List (Int × Int)} {c : Int} (hR : IsSum l R) (hV : ∀ m ∈ l, 0 ≤ m.1 ∧ m.1 < 1048576) (hc : wi c 1073741824 = false) : rAns c R = (0, [], 3) := by
  unfold rAns
  rw [if_pos (by rw [farB_eq c hR hV, hc]; rfl)]
theorem rAns_far2 {l R : List (Int × Int)} {c : Int} (hR : IsSum l R) (hV : ∀ m ∈ l, 0 ≤ m.1 ∧ m.1 < 1048576) (hk : ¬ ∀ m ∈ R, wi m.2 1073741824 = true) : rAns c R = (0, [], 3) := by
  have h : (R.all fun m => wi m.2 1073741824) = false := by
    by_cases e : (R.all fun m => wi m.2 1073741824) = true
    · exact absurd (fun m hm => List.all_eq_true.1 e m hm) hk
    · simpa using e
  unfold rAns
  rw [if_pos (by rw [farB_eq c hR hV, h, Bool.and_false]; rfl)]
theorem rAns_near {l R : List (Int × Int)} {c : Int} (hR : IsSum l R) (hV : ∀ m ∈ l, 0 ≤ m.1 ∧ m.1 < 1048576) (hc : wi c 1073741824 = true) (hk : ∀ m ∈ R, wi m.2 1073741824 = true) : rAns c R = if 64 < R.length then (0, [], 2) else (c, R, 0) := by
  have h : (R.all fun m => wi m.2 1073741824) = true := List.all_eq_true.2 hk
  unfold rAns
  rw [if_neg (by rw [farB_eq c hR hV, hc, h]; decide)]

/-- Make answers as the document's Make does. -/
theorem make_same (c : Int) (a : Option Addr) (n cap : Nat) (l : List (Int × Int)) (w : World) (hn : l.length = n) (hm : n ≤ 9223372036854775807) (hl : Lies w.heap.size w a l) (hnil : a = none → n = 0 ∧ cap = 0) :
    ∃ (c' : Int) (R' : List (Int × Int)) (x : Value) (r : Int), R'.length ≤ 64 ∧
      (∀ W, Below w.heap.size w W → Calls Try.prog 14 #[.int .i64 c, .slice a n cap] W (LinAns W.heap.size c' R' x W)) ∧
      (∀ W, Below w.heap.size w W → Calls Try.prog 15 #[.int .i64 c, .slice a n cap] W (LinAns W.heap.size c' R' (.int .i64 r) W)) ∧
      ∀ W, Calls Try.prog 17 #[x] W fun e w' => e = .returned (.int .i64 r) ∧ W = w' := by
  by_cases h : argOk c l
  · obtain ⟨R, hR⟩ := exists_sum l
    have ht := argOk_bd h
    have hrm := fun W (hb : Below w.heap.size w W) => rmake_ok c a n cap l R W hn ((hl.below hb).mono hb.size) h hR
    by_cases hk : ∀ m ∈ R, wi m.2 1073741824 = true
    · rw [rAns_near hR ht.2 h.1 hk] at hrm
      by_cases h64 : R.length ≤ 64
      · rw [if_neg (by omega)] at hrm
        exact ⟨c, R, .nilIface, 0, h64, fun W hb => (make_ok c a n cap l R W hn ((hl.below hb).mono hb.size) hnil h hR hk h64).mono fun _ _ h => h.ans, hrm, fun W => code_nil W⟩
      · rw [if_pos (by omega)] at hrm
        exact ⟨0, [], .iface 30 (.int .i64 2), 2, by simp, fun W hb => (make_err 2 c a n cap l W hn ((hl.below hb).mono hb.size) hnil h
          fun a n cap W B hn hrow hB hm => gather_long _ a n cap B _ R W hn hrow hB hm ht.1 ht.2 hR h.1 hk (by omega)).mono fun _ _ h => h.ans, hrm, fun W => code_k 2 W (by omega) (by omega)⟩
    · rw [rAns_far2 hR ht.2 hk] at hrm
      exact ⟨0, [], .iface 30 (.int .i64 3), 3, by simp, fun W hb => (make_err 3 c a n cap l W hn ((hl.below hb).mono hb.size) hnil h
        fun a n cap W B hn hrow hB hm => gather_far2 _ a n cap B _ R W hn hrow hB hm ht.1 ht.2 hR h.1 hk).mono fun _ _ h => h.ans, hrm, fun W => code_k 3 W (by omega) (by omega)⟩
  · exact ⟨0, [], .iface 30 (.int .i64 1), 1, by simp, fun W hb => (make_arg c a n cap l W hn hm ((hl.below hb).mono hb.size) h).mono fun _ _ h => h.ans,
      fun W hb => rmake_bad c a n cap l W hn hm ((hl.below hb).mono hb.size) h, fun W => code_k 1 W (by omega) (by omega)⟩
end Go.Proofs.Ytnefolkhoeocjaa
