/- How premises and steps read. What the frames of layer 4 share. The frame of CutFollows. -/
import Derived.Test.YtmjhjacbhflcpaaMf09
import Derived.Test.YtmjhjacbhflcpaaMf10
import Derived.Test.YtmjhjacbhflcpaaRows
import Derived.BigQuiet
set_option linter.unusedVariables false
set_option linter.unusedSimpArgs false
namespace Go.Proofs.Ytmjhjacbhflcpaa
open Go.ChangeShapes Go.WideShapes Go.RowKit Go.Deep

theorem list_ofD {α : Type} (d : α) (n : Nat) (p : Nat → α → Prop) (h : ∀ i, i < n → ∃ m, p i m) : ∃ l : List α, l.length = n ∧ ∀ i, i < n → p i (l.getD i d) := by
  induction n with
  | zero => exact ⟨[], rfl, fun i hi => absurd hi (Nat.not_lt_zero i)⟩
  | succ n ih =>
    obtain ⟨l, hl, hp⟩ := ih (fun i hi => h i (by omega))
    obtain ⟨m, hm⟩ := h n (by omega)
    refine ⟨l ++ [m], by simp [hl], fun i hi => ?_⟩
    by_cases e : i = n
    · subst e
      rw [List.getD_eq_getElem?_getD, List.getElem?_append_right (by omega), hl]
      simpa using hm
    · have := hp i (by omega)
      rw [List.getD_eq_getElem?_getD] at this ⊢
      rwa [List.getElem?_append_left (by omega)]

section
variable {H : Type} {enc : TypeId × Value → H} {w : World} {base : Nat} {spare : Nat → Bool} {held : Bool}
theorem open_parts {fuel : Nat} {v : Value} {x : DataW H × List MemPlace} (h : DataW.trod enc Try.prog w base spare held fuel 44 [v] = some x) : ∃ a n cap l, v = .slice a n cap ∧ Came w a n cap l := by
  rcases open_slice_fields Try.underlying44 Try.underlying43 (by kernel_rfl) (by kernel_rfl) h with ⟨hcs, _⟩ | ⟨a, len, cap, m, hcs, hl, hm, hlm, hi⟩
  · injection hcs with hv
    exact ⟨none, 0, 0, [], hv, rfl, Nat.le_refl _, Nat.zero_le _, fun _ => ⟨rfl, rfl⟩, fun i hi => absurd hi (Nat.not_lt_zero i), fun m hm => by cases hm⟩
  · injection hcs with hv
    have hp : ∀ i, i < len → ∃ m : Int × Int, w.cell? (a.add (i * 2)) = some (.int .i64 m.1) ∧ w.cell? (a.add (i * 2 + 1)) = some (.int .i64 m.2) ∧ (Lit.int .i64 m.1).wf = true ∧ (Lit.int .i64 m.2).wf = true := by
      intro i hil
      obtain ⟨n, hf⟩ := hi i (by omega)
      obtain ⟨v0, y0, c0, t0⟩ := hf 0 _ rfl
      obtain ⟨v1, y1, c1, t1⟩ := hf 1 _ rfl
      obtain ⟨x0, e0, _, w0⟩ := DataW.trod_int Try.underlying3 t0
      obtain ⟨x1, e1, _, w1⟩ := DataW.trod_int Try.underlying3 t1
      injection e0 with e0
      injection e1 with e1
      subst e0 e1
      exact ⟨(x0, x1), c0, c1, w0, w1⟩
    obtain ⟨l, hll, hlp⟩ := list_of len _ hp
    refine ⟨some a, len, cap, l, hv, hll, hl, hm, (fun e => by cases e), fun i hi => ?_, fun m hm => ?_⟩
    · obtain ⟨c0, c1, _, _⟩ := hlp i (by omega)
      obtain ⟨b, off, spot⟩ := a
      have hs : spot = none := by
        have := World.cell?_spot c1
        by_cases h0 : spot = none
        · exact h0
        · have c00 := (hlp 0 (by omega)).1
          simpa [Addr.add] using World.cell?_spot c00
      subst hs
      refine ⟨b, off, rfl, ?_, ?_, ?_⟩
      · have := block_lt_of_cell c1
        simpa [Addr.add] using this
      · rw [Go.WideShapes.add_plain] at c0; exact c0
      · rw [Go.WideShapes.add_plain] at c1; exact c1
    · obtain ⟨i, hi, rfl⟩ := List.getElem_of_mem hm
      have := hlp i (by omega)
      rw [List.getD_eq_getElem?_getD, List.getElem?_eq_getElem hi] at this
      exact this.2.2

set_option maxRecDepth 100000 in
/-- Premises that came in. -/
theorem open_lins {r : Reach} {b0 : Nat} {v : Value} {d : DataW H} {p : List MemPlace} (hv : Value.okWide Try.prog w r b0 22 v) (h : DataW.Trod enc Try.prog w base spare held 22 v d p) :
    ∃ (a : Option Addr) (n cap : Nat) (ls : List (Int × List (Int × Int))), v = .slice a n cap ∧ ls.length = n ∧ n ≤ maxLen ∧ LLies w.heap.size w a ls ∧ (∀ i, i < n → (ls.getD i (0, [])).2.length ≤ 9223372036854775807) := by
  obtain ⟨a, len, cap, rfl⟩ := okWide_slice Try.underlying22 hv
  obtain ⟨fuel, hf⟩ := h
  rcases open_slice_fields Try.underlying22 Try.underlying35 (by kernel_rfl) (by kernel_rfl) hf with ⟨hcs, _⟩ | ⟨x, l, c, m, hcs, hl, hm, hlm, hi⟩
  · simp [Value.cells] at hcs
    obtain ⟨rfl, rfl, rfl⟩ := hcs
    exact ⟨none, 0, 0, [], rfl, rfl, Nat.zero_le _, fun i hi => absurd hi (Nat.not_lt_zero i), fun i hi => absurd hi (Nat.not_lt_zero i)⟩
  · simp [Value.cells] at hcs
    obtain ⟨rfl, rfl, rfl⟩ := hcs
    have hp : ∀ i, i < len → ∃ z : Int × List (Int × Int), ∃ ta tcap, w.cell? (x.add (i * 2)) = some (.int .i64 z.1) ∧ w.cell? (x.add (i * 2 + 1)) = some (.slice ta z.2.length tcap) ∧ Lies w.heap.size w ta z.2 ∧ z.2.length ≤ 9223372036854775807 := by
      intro i hil
      obtain ⟨n, hf⟩ := hi i (by omega)
      obtain ⟨v0, y0, c0, t0⟩ := hf 0 _ rfl
      obtain ⟨v1, y1, c1, t1⟩ := hf 1 _ rfl
      obtain ⟨x0, e0, _, w0⟩ := DataW.trod_int Try.underlying3 t0
      injection e0 with e0
      subst e0
      obtain ⟨ta, tn, tcap, tl, rfl, h1, h2, h3, _, h5, _⟩ := open_monos t1
      subst h1
      exact ⟨(x0, tl), ta, tcap, c0, c1, h5, by unfold maxLen at h3; show tl.length ≤ _; omega⟩
    obtain ⟨ls, hll, hlp⟩ := list_ofD ((0 : Int), ([] : List (Int × Int))) len _ hp
    refine ⟨some x, len, cap, ls, rfl, hll, Nat.le_trans hl hm, fun i hi => ?_, fun i hi => (hlp i hi).choose_spec.choose_spec.2.2.2⟩
    obtain ⟨ta, tcap, c0, c1, hli, _⟩ := hlp i (by omega)
    obtain ⟨b, off, spot⟩ := x
    have hs : spot = none := by
      have := World.cell?_spot c1
      by_cases h0 : spot = none
      · exact h0
      · obtain ⟨_, _, c00, _⟩ := hlp 0 (by omega)
        simpa [Addr.add] using World.cell?_spot c00
    subst hs
    refine ⟨b, off, ta, tcap, rfl, ?_, ?_, ?_, hli⟩
    · have := block_lt_of_cell c1
      simpa [Addr.add] using this
    · rw [Go.WideShapes.add_plain] at c0; exact c0
    · rw [Go.WideShapes.add_plain] at c1; exact c1
set_option maxRecDepth 100000 in
/-- Steps that came in. -/
theorem open_steps {r : Reach} {b0 : Nat} {v : Value} {d : DataW H} {p : List MemPlace} (hv : Value.okWide Try.prog w r b0 23 v) (h : DataW.Trod enc Try.prog w base spare held 23 v d p) :
    ∃ (a : Option Addr) (n cap : Nat) (ss : List (List (Int × Int) × Int)), v = .slice a n cap ∧ ss.length = n ∧ n ≤ maxLen ∧ SLies w.heap.size w a ss := by
  obtain ⟨a, len, cap, rfl⟩ := okWide_slice Try.underlying23 hv
  obtain ⟨fuel, hf⟩ := h
  rcases open_slice_fields Try.underlying23 Try.underlying46 (by kernel_rfl) (by kernel_rfl) hf with ⟨hcs, _⟩ | ⟨x, l, c, m, hcs, hl, hm, hlm, hi⟩
  · simp [Value.cells] at hcs
    obtain ⟨rfl, rfl, rfl⟩ := hcs
    exact ⟨none, 0, 0, [], rfl, rfl, Nat.zero_le _, fun i hi => absurd hi (Nat.not_lt_zero i)⟩
  · simp [Value.cells] at hcs
    obtain ⟨rfl, rfl, rfl⟩ := hcs
    have hp : ∀ i, i < len → ∃ z : List (Int × Int) × Int, ∃ ta tcap, w.cell? (x.add (i * 2)) = some (.slice ta z.1.length tcap) ∧ w.cell? (x.add (i * 2 + 1)) = some (.int .i64 z.2) ∧ Lies w.heap.size w ta z.1 ∧ z.1.length ≤ 9223372036854775807 := by
      intro i hil
      obtain ⟨n, hf⟩ := hi i (by omega)
      obtain ⟨v0, y0, c0, t0⟩ := hf 0 _ rfl
      obtain ⟨v1, y1, c1, t1⟩ := hf 1 _ rfl
      obtain ⟨x1, e1, _, w1⟩ := DataW.trod_int Try.underlying3 t1
      injection e1 with e1
      subst e1
      obtain ⟨ta, tn, tcap, tl, rfl, h1, h2, h3, _, h5, _⟩ := open_parts t0
      subst h1
      exact ⟨(tl, x1), ta, tcap, c0, c1, h5, by unfold maxLen at h3; show tl.length ≤ _; omega⟩
    obtain ⟨ss, hll, hlp⟩ := list_ofD (([] : List (Int × Int)), (0 : Int)) len _ hp
    refine ⟨some x, len, cap, ss, rfl, hll, Nat.le_trans hl hm, fun i hi => ?_⟩
    obtain ⟨ta, tcap, c0, c1, hli, hlm⟩ := hlp i (by omega)
    obtain ⟨b, off, spot⟩ := x
    have hs : spot = none := by
      have := World.cell?_spot c1
      by_cases h0 : spot = none
      · exact h0
      · obtain ⟨_, _, c00, _⟩ := hlp 0 (by omega)
        simpa [Addr.add] using World.cell?_spot c00
    subst hs
    refine ⟨b, off, ta, tcap, rfl, ?_, hlm, ?_, ?_, hli⟩
    · have := block_lt_of_cell c1
      simpa [Addr.add] using this
    · rw [Go.WideShapes.add_plain] at c0; exact c0
    · rw [Go.WideShapes.add_plain] at c1; exact c1
end
end Go.Proofs.Ytmjhjacbhflcpaa

namespace Go.Proofs.Ytmjhjacbhflcpaa
open Go.ChangeShapes Go.WideShapes Go.ChangeAt Go.RowKit
theorem Try.own : ownKnob Try.prog.godebug = none := by kernel_rfl
theorem Try.laidOut : laidOutB Try.prog = true := by kernel_rfl
end Go.Proofs.Ytmjhjacbhflcpaa

namespace Go.Proofs.Ytmjhjacbhflcpaa
open Go.ChangeShapes Go.WideShapes Go.ChangeAt Go.RowKit

set_option maxRecDepth 100000 in
theorem cutFollows_lifted (hup : UpSaid4) (os : Os) (started : os.Started) (H : Type) (enc : TypeId × Value → H) :
    ReturnsInHanded {} Try.checked os 3 .any (Rows.cutFollowsSpec.pre6 enc Try.prog Try.f3 Rows.cutFollowsRow.domain false) (Rows.cutFollowsSpec.post enc Try.prog Try.f3 false true false false) := by
  refine returnsInHanded_of_change (C := Try.checked) Try.own started (by kernel_rfl) Try.func3
    (ChangeSpec.witness6 (enc := enc) (C := Try.checked) false ⟨#[], #[.slice none 0 0, .slice none 0 0, .slice none 0 0], []⟩ 8 (by kernel_rfl) (by kernel_rfl) (by kernel_rfl) (by kernel_rfl)) ?_
  intro W base args ds gs before hval0 hW hcnd _
  have hval : ∀ (j : Nat) t v, Try.f3.params[j]? = some t → args[j]? = some v → Value.okWide Try.prog W .any base t v := hval0
  have hW' := hW
  obtain ⟨p, q, hA0, hV, rfl, hfz, hnd⟩ := hW
  have hA : DataW.TrodAll enc Try.prog W 0 (fun _ => true) true Try.f3.params.toList args.toList ds p := hA0
  rw [Try.params3] at hA hval
  obtain ⟨v0, vs0, d0, ds0, p0, q0, hargs, rfl, rfl, h0, r0⟩ := trodAll_cons hA
  obtain ⟨v1, vs1, d1, ds1, p1, q1, rfl, rfl, rfl, h1, r1⟩ := trodAll_cons r0
  obtain ⟨v2, vs2, d2, ds2, p2, q2, rfl, rfl, rfl, h2, r2⟩ := trodAll_cons r1
  obtain ⟨rfl, rfl, rfl⟩ := trodAll_nil r2
  obtain rfl : args = #[v0, v1, v2] := by cases args; simp_all
  obtain ⟨rfl, rfl⟩ := trodVars_none hV
  have k0 := h0
  have lt0 : ∀ x ∈ p0, x.block < W.heap.size := by obtain ⟨m, hm⟩ := k0; exact DataW.trod_lt m _ _ _ hm
  have k1 := h1
  have lt1 : ∀ x ∈ p1, x.block < W.heap.size := by obtain ⟨m, hm⟩ := k1; exact DataW.trod_lt m _ _ _ hm
  have k2 := h2
  have lt2 : ∀ x ∈ p2, x.block < W.heap.size := by obtain ⟨m, hm⟩ := k2; exact DataW.trod_lt m _ _ _ hm
  obtain ⟨a, n, cap, ls, rfl, hln0, hnm0, hll0, hlm0⟩ := open_lins (hval 0 22 v0 rfl rfl) h0
  have hm0 : n ≤ 9223372036854775807 := by unfold maxLen at hnm0; omega
  obtain ⟨sa, sn, scap, ss, rfl, hln1, hnm1, hsl1⟩ := open_steps (hval 1 23 v1 rfl rfl) h1
  have hm1 : sn ≤ 9223372036854775807 := by unfold maxLen at hnm1; omega
  obtain ⟨a2, n2, cap2, zs, rfl, hl2, hn2, hc2, hnums2, hwf2⟩ := open_nums (hval 2 24 v2 rfl rfl) h2
  have hm2 : n2 ≤ 9223372036854775807 := by unfold maxLen at hc2; omega
  clear hA0 hval0
  refine (cutFollows_any hup a n cap ls sa sn scap ss a2 n2 cap2 zs W (Given.mk hln0 hll0 hlm0 hln1 hsl1 hm0 hm1) hl2 hm2 hnums2).mono fun e W' ⟨he, bel⟩ => ?_
  subst he
  exact ⟨_, rfl, _, _, _, [], _, [], hW', trodAll_mk1 (shut_bool Try.underlying4 _), (trodAll_cons_mk (Below.trod Try.laidOut (by kernel_rfl) (of_decide_eq_true (by kernel_rfl)) k0 bel lt0) (trodAll_cons_mk (Below.trod Try.laidOut (by kernel_rfl) (of_decide_eq_true (by kernel_rfl)) k1 bel lt1) (trodAll_cons_mk (Below.trod Try.laidOut (by kernel_rfl) (of_decide_eq_true (by kernel_rfl)) k2 bel lt2) trodAll_mk0))), rfl, bel.frame _, fun h => by cases h⟩

theorem cutFollows_over (hup : UpSaid4) : Rows.CutFollowsSaid :=
  OpenClaim.holds_of_wide 3 Try.f3 rfl rfl rfl rfl rfl rfl rfl ⟨rfl, rfl, rfl, rfl, rfl⟩ rfl rfl rfl rfl rfl (by kernel_rfl) Try.func3 (by kernel_rfl)
    (of_decide_eq_true (by kernel_rfl)) (by unfold Func.isWrapper; first | (rw [if_pos (by decide +kernel)]; kernel_rfl) | (rw [if_neg (by decide +kernel)]; exact ⟨rfl, rfl⟩))
    (fun os started H enc _ => cutFollows_lifted hup os started H enc)
end Go.Proofs.Ytmjhjacbhflcpaa
