/- append of one own list of terms to another. -/
import Derived.Test.YtnefolkhoeocjaaLinN
import Derived.Deep.RegionHeld3
import Derived.Deep.AppendLies
import Derived.Deep.DrawnRows
namespace Go.Proofs.Ytnefolkhoeocjaa
open Go.RowKit

theorem Row.lies2 {B : Nat} {l : List (Int × Int)} {a : Option Addr} {n cap : Nat} {w : World} (h : Row B l (.slice a n cap) w) : Lies w.heap.size w a l := by
  obtain ⟨a', cap', e, hl, _⟩ := h.lies
  injection e with e1 e2 e3
  subst e1
  exact hl

theorem append_two (w : World) (ty : TypeId) {B B2 : Nat} {v v2 : Value} {r r2 : List (Int × Int)} (h : Row B r v w) (h2 : Row B2 r2 v2 w) (hB : B ≤ w.heap.size) (hlen : r.length + r2.length ≤ 8192) :
    ∃ v' w', (Builtin.append_ #[22, 22] ty #[v, v2]).run Try.prog w = .ok v' w' ∧ Row B (r ++ r2) v' w' ∧ w.grownBy w' v.ownBlock := by
  obtain ⟨i0, hi, hz0, hz1, hz2⟩ := info_parts Try.infoMono
  obtain ⟨a2, cap2, rfl, hl2, hnil⟩ := h2.lies
  cases a2 with
  | none =>
    obtain ⟨h0, rfl⟩ := hnil rfl
    have hr : r2 = [] := List.eq_nil_of_length_eq_zero h0
    subst hr
    exact ⟨v, w, run_append_owned_none w B _ ty _ i0 2 Try.underlying22 hi v _ _ h, by simpa using h, World.grownBy.refl w _⟩
  | some ad =>
    obtain ⟨v', w', hr, h3, h4, _⟩ := run_append_own w B 22 ty 50 i0 _ 2 16 Try.underlying22 hi hz0 hz1 hz2 rfl (by decide) v r.length (flat r) h ad r2.length cap2 (flat r2) (flat_len r2) hl2.news (flat_cells r2) (by unfold maxLen; omega) (by omega) hB
    refine ⟨v', w', hr, ?_, h4⟩
    unfold Row
    rw [List.length_append, flat_append]
    exact h3

theorem step_append_two {w : World} {ops : Array Oper} {o : Oper} {a : Act} {K : Act → World → Prop} {Q : Exit → Act → World → Prop} {E : Prop} (hgd : o.guard = none) (s x : Operand)
    (ho : o.op = .call { callee := .builtin .append, args := #[s, x], argTypes := #[22, 22] })
    (B B2 : Nat) (v v2 : Value) (r r2 : List (Int × Int)) (hs : a.eval s = v) (hx : a.eval x = v2) (h : Row B r v w) (h2 : Row B2 r2 v2 w) (hB : B ≤ w.heap.size) (hlen : r.length + r2.length ≤ 8192)
    (hK : ∀ a' cap w', Row B (r ++ r2) (.slice a' (r.length + r2.length) cap) w' → w.grownBy w' v.ownBlock → K (a.put o.dst (.slice a' (r.length + r2.length) cap)) w') :
    if Region.wanted o (yielded ops a.tmps) = true then Oper.wp Try.prog o a w K Q else E := by
  have hw : Region.wanted o (yielded ops a.tmps) = true := by simp [Region.wanted, hgd]
  rw [if_pos hw]
  obtain ⟨v', w', hr, h3, h4⟩ := append_two w o.type h h2 hB hlen
  obtain ⟨a', cap, rfl, _, _⟩ := h3.lies
  rw [List.length_append] at hr h3
  unfold Oper.wp execOp
  simp only [ho, resolve, invoke, builtin, Sem.run_bind, Sem.run_pure, Result.andThen_ok, List.map_toArray, List.map_cons, List.map_nil, hs, hx, hr]
  exact hK _ _ _ h3 h4
end Go.Proofs.Ytnefolkhoeocjaa
