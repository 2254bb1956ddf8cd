/- What Add answers, the document's and the program's. -/
import Derived.Test.YtnefolkhoeocjaaLinRA
import Derived.Test.YtnefolkhoeocjaaLinK2
namespace Go.Proofs.Ytnefolkhoeocjaa
open Go.RowKit

/-- Add answers as the document's Add does. -/
theorem add_same (ca cb x y : Int) (a b : Option Addr) (na nb capa capb : Nat) (la lb : List (Int × Int)) (w : World) (hna : la.length = na) (hnb : lb.length = nb) (hma : na ≤ 9223372036854775807) (hmb : nb ≤ 9223372036854775807) (hla : Lies w.heap.size w a la) (hlb : Lies w.heap.size w b lb) :
    ∃ (c' : Int) (R' : List (Int × Int)) (z : Value) (r : Int), R'.length ≤ 64 ∧
      (∀ W, Below w.heap.size w W → Calls Try.prog 18 #[.agg #[.int .i64 ca, .slice a na capa], .agg #[.int .i64 cb, .slice b nb capb], .int .i64 x, .int .i64 y] W (LinAns W.heap.size c' R' z W)) ∧
      (∀ W, Below w.heap.size w W → Calls Try.prog 19 #[.agg #[.int .i64 ca, .slice a na capa], .agg #[.int .i64 cb, .slice b nb capb], .int .i64 x, .int .i64 y] W (LinAns W.heap.size c' R' (.int .i64 r) W)) ∧
      ∀ W, Calls Try.prog 17 #[z] W fun e w' => e = .returned (.int .i64 r) ∧ W = w' := by
  by_cases ha : snd ca la = true
  · by_cases hb : snd cb lb = true
    · by_cases hx : -4096 ≤ x ∧ x ≤ 4096
      · by_cases hy : -4096 ≤ y ∧ y ≤ 4096
        · obtain ⟨R, hR⟩ := exists_sum (scale x la ++ scale y lb)
          have ht := both_terms ha hb hx hy
          have hra := fun W (hbW : Below w.heap.size w W) => radd_ok ca cb x y a b na nb capa capb la lb R W hna hnb ((hla.below hbW).mono hbW.size) ((hlb.below hbW).mono hbW.size) ha hb hx hy hR
          by_cases hc : wi (x * ca + y * cb) 1073741824 = true
          · by_cases hk : ∀ m ∈ R, wi m.2 1073741824 = true
            · rw [rAns_near hR ht.2 hc hk] at hra
              by_cases h64 : R.length ≤ 64
              · rw [if_neg (by omega)] at hra
                exact ⟨x * ca + y * cb, R, .nilIface, 0, h64, fun W hbW => (add_ok ca cb x y a b na nb capa capb la lb R W hna hnb ((hla.below hbW).mono hbW.size) ((hlb.below hbW).mono hbW.size) ha hb hx hy
                  fun a n cap W B hn hrow hB hm => gather_ok _ a n cap B _ R W hn hrow hB hm ht.1 ht.2 hR hc hk h64).mono fun _ _ h => h.ans, hra, fun W => code_nil W⟩
              · rw [if_pos (by omega)] at hra
                exact ⟨0, [], .iface 30 (.int .i64 2), 2, by simp, fun W hbW => (add_err 2 ca cb x y a b na nb capa capb la lb W hna hnb ((hla.below hbW).mono hbW.size) ((hlb.below hbW).mono hbW.size) ha hb hx hy
                  fun a n cap W B hn hrow hB hm => gather_long _ a n cap B _ R W hn hrow hB hm ht.1 ht.2 hR hc hk (by omega)).mono fun _ _ h => h.ans, hra, fun W => code_k 2 W (by omega) (by omega)⟩
            · rw [rAns_far2 hR ht.2 hk] at hra
              exact ⟨0, [], .iface 30 (.int .i64 3), 3, by simp, fun W hbW => (add_err 3 ca cb x y a b na nb capa capb la lb W hna hnb ((hla.below hbW).mono hbW.size) ((hlb.below hbW).mono hbW.size) ha hb hx hy
                fun a n cap W B hn hrow hB hm => gather_far2 _ a n cap B _ R W hn hrow hB hm ht.1 ht.2 hR hc hk).mono fun _ _ h => h.ans, hra, fun W => code_k 3 W (by omega) (by omega)⟩
          · have hc' : wi (x * ca + y * cb) 1073741824 = false := by simpa using hc
            rw [rAns_far1 hR ht.2 hc'] at hra
            exact ⟨0, [], .iface 30 (.int .i64 3), 3, by simp, fun W hbW => (add_err 3 ca cb x y a b na nb capa capb la lb W hna hnb ((hla.below hbW).mono hbW.size) ((hlb.below hbW).mono hbW.size) ha hb hx hy
              fun a n cap W B hn hrow hB hm => gather_far1 _ a n cap B _ R W hn hrow hB hm ht.1 ht.2 hR hc').mono fun _ _ h => h.ans, hra, fun W => code_k 3 W (by omega) (by omega)⟩
        · exact ⟨0, [], .iface 30 (.int .i64 1), 1, by simp, fun W hbW => (add_arg2 ca cb x y a b na nb capa capb la lb W hna hnb hma hmb ((hla.below hbW).mono hbW.size) ((hlb.below hbW).mono hbW.size) ha hb hx hy).mono fun _ _ h => h.ans,
            fun W hbW => radd_arg ca cb x y a b na nb capa capb la lb W hna hnb hma hmb ((hla.below hbW).mono hbW.size) ((hlb.below hbW).mono hbW.size) ha hb (fun h => hy h.2), fun W => code_k 1 W (by omega) (by omega)⟩
      · exact ⟨0, [], .iface 30 (.int .i64 1), 1, by simp, fun W hbW => (add_arg1 ca cb x y a b na nb capa capb la lb W hna hnb hma hmb ((hla.below hbW).mono hbW.size) ((hlb.below hbW).mono hbW.size) ha hb hx).mono fun _ _ h => h.ans,
          fun W hbW => radd_arg ca cb x y a b na nb capa capb la lb W hna hnb hma hmb ((hla.below hbW).mono hbW.size) ((hlb.below hbW).mono hbW.size) ha hb (fun h => hx h.1), fun W => code_k 1 W (by omega) (by omega)⟩
    · exact ⟨0, [], .iface 30 (.int .i64 5), 5, by simp, fun W hbW => (add_form2 ca cb x y a b na nb capa capb la lb W hna hnb hma hmb ((hla.below hbW).mono hbW.size) ((hlb.below hbW).mono hbW.size) ha (by simpa using hb)).mono fun _ _ h => h.ans,
        fun W hbW => radd_form ca cb x y a b na nb capa capb la lb W hna hnb hma hmb ((hla.below hbW).mono hbW.size) ((hlb.below hbW).mono hbW.size) (.inr (by simpa using hb)), fun W => code_k 5 W (by omega) (by omega)⟩
  · exact ⟨0, [], .iface 30 (.int .i64 5), 5, by simp, fun W hbW => (add_form1 ca cb x y a b na nb capa capb la lb W hna hnb hma hmb ((hla.below hbW).mono hbW.size) ((hlb.below hbW).mono hbW.size) (by simpa using ha)).mono fun _ _ h => h.ans,
      fun W hbW => radd_form ca cb x y a b na nb capa capb la lb W hna hnb hma hmb ((hla.below hbW).mono hbW.size) ((hlb.below hbW).mono hbW.size) (.inl (by simpa using ha)), fun W => code_k 5 W (by omega) (by omega)⟩
end Go.Proofs.Ytnefolkhoeocjaa
