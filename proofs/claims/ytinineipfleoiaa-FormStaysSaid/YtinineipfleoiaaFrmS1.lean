/- Copies of formulas: lists of terms and of formulas that the call makes. -/
import Derived.Test.YtinineipfleoiaaFrmS0
import Derived.Test.YtinineipfleoiaaFrmG2
import Derived.Test.YtinineipfleoiaaLinG
import Derived.Test.YtinineipfleoiaaFrmK2
import Derived.Maps.AppendAt
import Derived.Maps.Range
import Derived.Deep.RegionHeld3
import Derived.Deep.AppendLies
import Derived.Deep.DrawnRows
namespace Go.Proofs.Ytinineipfleoiaa
open Go.RowKit

theorem run_append_none {P : Program} (w : World) (base : Nat) (t ty e : TypeId) (i : TypeInfo) (size : Nat) (ht : P.underlying t = some (.slice e)) (hi : P.info? e = some i)
    (v : Value) (n : Nat) (xs : List Value) (hown : w.ownsRow base e size v n xs) (c : Nat) :
    (Builtin.append_ #[t, t] ty #[v, .slice none 0 c]).run P w = .ok v w := by
  rcases hown.2 with ⟨rfl, rfl⟩ | ⟨g, cap, cur, rfl, _, _, hnc, _⟩
  · simp [Builtin.append_, run_underlying ht, sizeOf, typeInfo, hi, Builtin.lenOf, Builtin.firstCells]
  · simp [Builtin.append_, run_underlying ht, sizeOf, typeInfo, hi, Builtin.lenOf, Builtin.firstCells, hnc, storeCells]

/-- append of a list that lies somewhere to an own empty one, in a drawn region. -/
theorem step_append_src {w : World} {ops : Array Oper} {o : Oper} {a : Act} {K : Act → World → Prop} {Q : Exit → Act → World → Prop} {E : Prop} (hgd : o.guard = none) (s x : Operand)
    (ho : o.op = .call { callee := .builtin .append, args := #[s, x], argTypes := #[22, 22] })
    (B Bx : Nat) (v : Value) (hs : a.eval s = v) (h : Row B [] v w) (ad : Option Addr) (n cap : Nat) (l : List (Int × Int)) (hx : a.eval x = .slice ad n cap) (hl : Lies Bx w ad l) (hn : l.length = n)
    (hbytes : n * 16 ≤ 140737488351232) (hB : B ≤ w.heap.size)
    (hK : ∀ a' cap' w', Row B l (.slice a' n cap') w' → w.grownBy w' v.ownBlock → ((Value.slice a' n cap').ownBlock = v.ownBlock ∨ (Value.slice a' n cap').ownBlock = some w.heap.size) → K (a.put o.dst (.slice a' n cap')) w') :
    if Region.wanted o (yielded ops a.tmps) = true then Oper.wp Try.prog o a w K Q else E := by
  have hw : Region.wanted o (yielded ops a.tmps) = true := by simp [Region.wanted, hgd]
  rw [if_pos hw]
  obtain ⟨i0, hi, hz0, hz1, hz2⟩ := info_parts Try.infoMono
  obtain ⟨v', w', hr, h3, h4, h5⟩ : ∃ v' w', (Builtin.append_ #[22, 22] o.type #[v, .slice ad n cap]).run Try.prog w = .ok v' w' ∧ Row B l v' w' ∧ w.grownBy w' v.ownBlock ∧ (v'.ownBlock = v.ownBlock ∨ v'.ownBlock = some w.heap.size) := by
    cases ad with
    | none =>
      have h0 : l = [] := by
        cases l with
        | nil => rfl
        | cons m r =>
          obtain ⟨_, _, e, _⟩ := hl 0 (by simp)
          cases e
      subst h0
      obtain rfl : n = 0 := by simpa using hn.symm
      exact ⟨v, w, run_append_none w B _ o.type _ i0 2 Try.underlying22 hi v _ _ h cap, h, World.grownBy.refl w _, .inl rfl⟩
    | some ad =>
      obtain ⟨v', w', hr, h3, h4, _, h6⟩ := run_append_own_at w B 22 o.type 51 i0 _ 2 16 Try.underlying22 hi hz0 hz1 hz2 rfl (by decide) v 0 [] h ad n cap (flat l) (by rw [flat_len, hn]) hl.news (flat_cells l) (by unfold maxLen; omega) (by omega) hB
      refine ⟨v', w', hr, ?_, h4, h6⟩
      unfold Row
      rw [hn]
      simpa using h3
  obtain ⟨a', cap', rfl, _, _⟩ := h3.lies
  rw [hn] at hr h3 h5
  unfold Oper.wp execOp
  simp only [ho, resolve, invoke, builtin, Sem.run_bind, Sem.run_pure, Result.andThen_ok, List.map_toArray, List.map_cons, List.map_nil, hs, hx, hr]
  exact hK _ _ _ h3 h4 h5

/-- A list of formulas' cells of the call's own. -/
def ORow (B : Nat) (css : List (List Value)) (v : Value) (w : World) : Prop := w.ownsRow B 27 4 v css.length css.flatten

theorem step_append_form {w : World} {ops : Array Oper} {o : Oper} {a : Act} {K : Act → World → Prop} {Q : Exit → Act → World → Prop} {E : Prop} (hgd : o.guard = none) (s x : Operand)
    (ho : o.op = .call { callee := .builtin .append, args := #[s, x], argTypes := #[25, 25] })
    (B : Nat) (v : Value) (hs : a.eval s = v) (css : List (List Value)) (h : ORow B css v w) (ad : Addr) (cap : Nat) (cs : List Value) (hx : a.eval x = .slice (some ad) 1 cap) (hcs : cs.length = 4)
    (hnews : ∀ j u, cs[j]? = some u → w.cell? (ad.add j) = some u) (h1 : ∀ u ∈ cs, u.oneCell' = true) (hlen : css.length ≤ 1048576) (hB : B ≤ w.heap.size)
    (hK : ∀ v' w', ORow B (css ++ [cs]) v' w' → w.grownBy w' v.ownBlock → (v'.ownBlock = v.ownBlock ∨ v'.ownBlock = some w.heap.size) → K (a.put o.dst v') w') :
    if Region.wanted o (yielded ops a.tmps) = true then Oper.wp Try.prog o a w K Q else E := by
  have hw : Region.wanted o (yielded ops a.tmps) = true := by simp [Region.wanted, hgd]
  rw [if_pos hw]
  obtain ⟨i0, hi, hz0, hz1, hz2⟩ := info_parts Try.infoForm
  obtain ⟨v', w', hr, h3, h4, _, h5⟩ := run_append_own_at w B 25 o.type 27 i0 _ 4 64 Try.underlying25 hi hz0 hz1 hz2 rfl (by decide) v css.length css.flatten h ad 1 cap cs (by rw [hcs]) hnews h1 (by unfold maxLen; omega) (by omega) hB
  unfold Oper.wp execOp
  simp only [ho, resolve, invoke, builtin, Sem.run_bind, Sem.run_pure, Result.andThen_ok, List.map_toArray, List.map_cons, List.map_nil, hs, hx, hr]
  refine hK _ _ ?_ h4 h5
  unfold ORow
  rw [List.length_append, List.flatten_append, List.flatten_singleton]
  exact h3
theorem row_fresh (B : Nat) (W : World) (N : Nat) (hN : W.heap.size = N) (hB : B ≤ N) : Row B [] (.slice (some ⟨N, 0, none⟩) 0 0) (W.alloc (.cells #[] 51)).drew := by
  subst hN
  have h : (W.alloc (.cells #[] 51)).ownsRow B 51 2 (.slice (some ⟨W.heap.size, 0, none⟩) 0 0) 0 [] := World.ownsRow_made W #[] 0 hB (by decide) rfl
  exact h
end Go.Proofs.Ytinineipfleoiaa
