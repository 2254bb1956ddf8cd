/- What LinStays needs: what Make and Add answer hangs on the values alone; what stays where another row is written. -/
import Derived.Test.YtnefolkhoeocjaaLinK3
import Derived.SizedLaws
namespace Go.Proofs.Ytnefolkhoeocjaa
open Go.RowKit

theorem grown_set {w w' : World} {g o : Nat} {v : Value} (h : w.grownBy w' (some g)) : w.grownBy (w'.setCell ⟨g, o, none⟩ v) (some g) :=
  ⟨h.os, h.tape, h.output, by rw [World.size_setCell]; exact h.size, fun k hk hne => by
    rw [Below.heap_setCell _ _ _ _ (fun e => hne (by rw [e]))]
    exact h.block k hk hne⟩
theorem grown_drewN {w w' : World} {row : Option Nat} (h : w.grownBy w' row) (n : Nat) : w.grownBy (w'.drewN n) row := ⟨h.os, h.tape, h.output, h.size, h.block⟩
theorem Row.grown {B : Nat} {l : List (Int × Int)} {v : Value} {w w' : World} {row : Option Nat} (h : Row B l v w) (hg : w.grownBy w' row) (hne : ∀ g, v.ownBlock = some g → row ≠ some g) : Row B l v w' := by
  obtain ⟨h1, h2⟩ := h
  rcases h2 with h2 | ⟨g, cap, cur, hv, hB, hh, hr⟩
  · exact ⟨h1, .inl h2⟩
  refine ⟨h1, .inr ⟨g, cap, cur, hv, hB, ?_, hr⟩⟩
  have hlt : g < w.heap.size := by
    by_cases e : g < w.heap.size
    · exact e
    · rw [Array.getElem?_eq_none (by omega)] at hh; cases hh
  rw [hg.block g hlt (fun e => hne g (by rw [hv]; rfl) e.symm)]
  exact hh

/-- Where an own list lies. -/
theorem Row.at {B : Nat} {l : List (Int × Int)} {a : Option Addr} {n cap : Nat} {w : World} (h : Row B l (.slice a n cap) w) (hn : l.length = n) (hB : B < w.heap.size) :
    ∃ G, B ≤ G ∧ G < w.heap.size ∧ (∀ g, (Value.slice a n cap).ownBlock = some g → g = G) ∧ ∀ j, j < n → a = some ⟨G, 0, none⟩ ∧ (∀ o, w.frozen? ⟨G, o, none⟩ = false) ∧ w.cell? ⟨G, j * 2, none⟩ = some (.int .i64 (l.getD j (0, 0)).1) ∧ w.cell? ⟨G, j * 2 + 1, none⟩ = some (.int .i64 (l.getD j (0, 0)).2) := by
  have hl := h.lies2
  obtain ⟨h1, h2⟩ := h
  rcases h2 with h2 | ⟨g, cap', cur, hv, hg, hh, hr⟩
  · injection h2.1 with e1 e2 e3
    subst e1 e2
    exact ⟨B, Nat.le_refl _, hB, fun g hg => by simp [Value.ownBlock] at hg, fun j hj => absurd hj (Nat.not_lt_zero j)⟩
  · injection hv with e1 e2 e3
    subst e1
    have hlt : g < w.heap.size := by
      by_cases e : g < w.heap.size
      · exact e
      · rw [Array.getElem?_eq_none (by omega)] at hh; cases hh
    refine ⟨g, hg, hlt, fun g' hg' => by simp [Value.ownBlock] at hg'; exact hg'.symm, fun j hj => ⟨rfl, fun o => frozen_of_row _ _ _ _ _ hh, ?_⟩⟩
    obtain ⟨b, off, e, _, c1, c2⟩ := hl j (by omega)
    injection e with e
    injection e with e1 e2 _
    subst e1 e2
    rw [Nat.zero_add] at c1 c2
    exact ⟨c1, c2⟩

/-- append of a list to an own empty one. -/
theorem wpList_append_src {w : World} {ops : Array Oper} {rest : List Oper} {o : Oper} {a : Act} {Q : Exit → Act → World → Prop} (hgd : o.guard = none) (s x : Operand)
    (ho : o.op = .call { callee := .builtin .append, args := #[s, x], argTypes := #[22, 22] })
    (B Bx : Nat) (v : Value) (hs : a.eval s = v) (h : Row B [] v w) (ad : Option Addr) (n cap : Nat) (l : List (Int × Int)) (hx : a.eval x = .slice ad n cap) (hl : Lies Bx w ad l) (hn : l.length = n) (hnil : ad = none → n = 0 ∧ cap = 0)
    (hbytes : n * 16 ≤ 140737488351232) (hB : B ≤ w.heap.size)
    (hK : ∀ a' cap' w', Row B l (.slice a' n cap') w' → w.grownBy w' v.ownBlock → wpList Try.prog ops Q rest (a.put o.dst (.slice a' n cap')) w') : wpList Try.prog ops Q (o :: rest) a w := by
  obtain ⟨i0, hi, hz0, hz1, hz2⟩ := info_parts Try.infoMono
  obtain ⟨v', w', hr, h3, h4⟩ : ∃ v' w', (Builtin.append_ #[22, 22] o.type #[v, .slice ad n cap]).run Try.prog w = .ok v' w' ∧ Row B l v' w' ∧ w.grownBy w' v.ownBlock := by
    cases ad with
    | none =>
      obtain ⟨h0, rfl⟩ := hnil rfl
      subst h0
      have hr : l = [] := List.eq_nil_of_length_eq_zero hn
      subst hr
      exact ⟨v, w, run_append_owned_none w B _ o.type _ i0 2 Try.underlying22 hi v _ _ h, h, World.grownBy.refl w _⟩
    | some ad =>
      obtain ⟨v', w', hr, h3, h4, _⟩ := run_append_own w B 22 o.type 50 i0 _ 2 16 Try.underlying22 hi hz0 hz1 hz2 rfl (by decide) v 0 [] h ad n cap (flat l) (by rw [flat_len, hn]) hl.news (flat_cells l) (by unfold maxLen; omega) (by omega) hB
      refine ⟨v', w', hr, ?_, h4⟩
      unfold Row
      rw [hn]
      simpa using h3
  obtain ⟨a', cap', rfl, _, _⟩ := h3.lies
  rw [hn] at hr h3
  refine wpList_plain hgd fun _ hK' => ?_
  unfold Oper.wp execOp
  simp only [ho, resolve, invoke, builtin, Sem.run_bind, Sem.run_pure, Result.andThen_ok, List.map_toArray, List.map_cons, List.map_nil, hs, hx, hr]
  rw [← hn]
  exact hK' _ _ (by rw [hn]; exact hK _ _ _ h3 h4)

/-- Make's answer hangs on the constant and the terms alone. -/
theorem make_det (c : Int) (l : List (Int × Int)) (hm : l.length ≤ 9223372036854775807) :
    ∃ (c' : Int) (R' : List (Int × Int)) (z : Value) (r : Int), R'.length ≤ 64 ∧ (z = .nilIface ∨ ∃ k : Int, z = .iface 30 (.int .i64 k)) ∧
      (∀ a n cap W, l.length = n → Lies W.heap.size W a l → (a = none → n = 0 ∧ cap = 0) → Calls Try.prog 14 #[.int .i64 c, .slice a n cap] W (LinAns W.heap.size c' R' z W)) ∧
      ∀ W, Calls Try.prog 17 #[z] W fun e w' => e = .returned (.int .i64 r) ∧ W = w' := by
  by_cases h : argOk c l
  · obtain ⟨R, hR⟩ := exists_sum l
    have ht := argOk_bd h
    by_cases hk : ∀ m ∈ R, wi m.2 1073741824 = true
    · by_cases h64 : R.length ≤ 64
      · exact ⟨c, R, .nilIface, 0, h64, .inl rfl, fun a n cap W hn hl hnil => (make_ok c a n cap l R W hn hl hnil h hR hk h64).mono fun _ _ h => h.ans, fun W => code_nil W⟩
      · exact ⟨0, [], .iface 30 (.int .i64 2), 2, by simp, .inr ⟨_, rfl⟩, fun a n cap W hn hl hnil => (make_err 2 c a n cap l W hn hl hnil h
          fun a n cap W B hn hrow hB hm => gather_long _ a n cap B _ R W hn hrow hB hm ht.1 ht.2 hR h.1 hk (by omega)).mono fun _ _ h => h.ans, fun W => code_k 2 W (by omega) (by omega)⟩
    · exact ⟨0, [], .iface 30 (.int .i64 3), 3, by simp, .inr ⟨_, rfl⟩, fun a n cap W hn hl hnil => (make_err 3 c a n cap l W hn hl hnil h
        fun a n cap W B hn hrow hB hm => gather_far2 _ a n cap B _ R W hn hrow hB hm ht.1 ht.2 hR h.1 hk).mono fun _ _ h => h.ans, fun W => code_k 3 W (by omega) (by omega)⟩
  · exact ⟨0, [], .iface 30 (.int .i64 1), 1, by simp, .inr ⟨_, rfl⟩, fun a n cap W hn hl hnil => (make_arg c a n cap l W hn (by omega) hl h).mono fun _ _ h => h.ans, fun W => code_k 1 W (by omega) (by omega)⟩

/-- Add's answer hangs on the forms' values alone. -/
theorem add_det (ca cb x y : Int) (la lb : List (Int × Int)) (hma : la.length ≤ 9223372036854775807) (hmb : lb.length ≤ 9223372036854775807) :
    ∃ (c' : Int) (R' : List (Int × Int)) (z : Value) (r : Int), R'.length ≤ 64 ∧
      (∀ a b capa capb W, Lies W.heap.size W a la → Lies W.heap.size W b lb → Calls Try.prog 18 #[.agg #[.int .i64 ca, .slice a la.length capa], .agg #[.int .i64 cb, .slice b lb.length capb], .int .i64 x, .int .i64 y] W (LinAns W.heap.size c' R' z W)) ∧
      ∀ W, Calls Try.prog 17 #[z] W fun e w' => e = .returned (.int .i64 r) ∧ W = w' := by
  by_cases ha : snd ca la = true
  · by_cases hb : snd cb lb = true
    · by_cases hx : -4096 ≤ x ∧ x ≤ 4096
      · by_cases hy : -4096 ≤ y ∧ y ≤ 4096
        · obtain ⟨R, hR⟩ := exists_sum (scale x la ++ scale y lb)
          have ht := both_terms ha hb hx hy
          by_cases hc : wi (x * ca + y * cb) 1073741824 = true
          · by_cases hk : ∀ m ∈ R, wi m.2 1073741824 = true
            · by_cases h64 : R.length ≤ 64
              · exact ⟨x * ca + y * cb, R, .nilIface, 0, h64, fun a b capa capb W hla hlb => (add_ok ca cb x y a b _ _ capa capb la lb R W rfl rfl hla hlb ha hb hx hy
                  fun a n cap W B hn hrow hB hm => gather_ok _ a n cap B _ R W hn hrow hB hm ht.1 ht.2 hR hc hk h64).mono fun _ _ h => h.ans, fun W => code_nil W⟩
              · exact ⟨0, [], .iface 30 (.int .i64 2), 2, by simp, fun a b capa capb W hla hlb => (add_err 2 ca cb x y a b _ _ capa capb la lb W rfl rfl hla hlb ha hb hx hy
                  fun a n cap W B hn hrow hB hm => gather_long _ a n cap B _ R W hn hrow hB hm ht.1 ht.2 hR hc hk (by omega)).mono fun _ _ h => h.ans, fun W => code_k 2 W (by omega) (by omega)⟩
            · exact ⟨0, [], .iface 30 (.int .i64 3), 3, by simp, fun a b capa capb W hla hlb => (add_err 3 ca cb x y a b _ _ capa capb la lb W rfl rfl hla hlb ha hb hx hy
                fun a n cap W B hn hrow hB hm => gather_far2 _ a n cap B _ R W hn hrow hB hm ht.1 ht.2 hR hc hk).mono fun _ _ h => h.ans, fun W => code_k 3 W (by omega) (by omega)⟩
          · have hc' : wi (x * ca + y * cb) 1073741824 = false := by simpa using hc
            exact ⟨0, [], .iface 30 (.int .i64 3), 3, by simp, fun a b capa capb W hla hlb => (add_err 3 ca cb x y a b _ _ capa capb la lb W rfl rfl hla hlb ha hb hx hy
              fun a n cap W B hn hrow hB hm => gather_far1 _ a n cap B _ R W hn hrow hB hm ht.1 ht.2 hR hc').mono fun _ _ h => h.ans, fun W => code_k 3 W (by omega) (by omega)⟩
        · exact ⟨0, [], .iface 30 (.int .i64 1), 1, by simp, fun a b capa capb W hla hlb => (add_arg2 ca cb x y a b _ _ capa capb la lb W rfl rfl hma hmb hla hlb ha hb hx hy).mono fun _ _ h => h.ans, fun W => code_k 1 W (by omega) (by omega)⟩
      · exact ⟨0, [], .iface 30 (.int .i64 1), 1, by simp, fun a b capa capb W hla hlb => (add_arg1 ca cb x y a b _ _ capa capb la lb W rfl rfl hma hmb hla hlb ha hb hx).mono fun _ _ h => h.ans, fun W => code_k 1 W (by omega) (by omega)⟩
    · exact ⟨0, [], .iface 30 (.int .i64 5), 5, by simp, fun a b capa capb W hla hlb => (add_form2 ca cb x y a b _ _ capa capb la lb W rfl rfl hma hmb hla hlb ha (by simpa using hb)).mono fun _ _ h => h.ans, fun W => code_k 5 W (by omega) (by omega)⟩
  · exact ⟨0, [], .iface 30 (.int .i64 5), 5, by simp, fun a b capa capb W hla hlb => (add_form1 ca cb x y a b _ _ capa capb la lb W rfl rfl hma hmb hla hlb (by simpa using ha)).mono fun _ _ h => h.ans, fun W => code_k 5 W (by omega) (by omega)⟩
end Go.Proofs.Ytnefolkhoeocjaa
