/- How premises and steps read. What the frames of layer 4 share. CutLong whole; its frame, the listed variable laid. The frame of CutLines. CutRefutes: its walk. The frame of CutRefutes. -/
import Derived.Test.YtmjhjacbhflcpaaDoorCl10
import Derived.Test.YtmjhjacbhflcpaaDoorCl13
import Derived.Test.YtmjhjacbhflcpaaDoorCl14
import Derived.Test.YtmjhjacbhflcpaaDoorCl15
import Derived.Test.YtmjhjacbhflcpaaDoorCl16
import Derived.Test.YtmjhjacbhflcpaaDoorRows
import Derived.ChangeSame
import Derived.ChangeVars
import Derived.JoinedOf
import Derived.RowKit
import Derived.RowKitTokens
import Derived.LaidLaws
import Derived.LaidHandle
import Derived.Stop.Joined
import Derived.BigQuiet
set_option linter.unusedVariables false
set_option linter.unusedSimpArgs false
namespace Go.Proofs.YtmjhjacbhflcpaaDoor
open Go.ChangeShapes Go.WideShapes Go.RowKit Go.Deep

theorem list_ofD {α : Type} (d : α) (n : Nat) (p : Nat → α → Prop) (h : ∀ i, i < n → ∃ m, p i m) : ∃ l : List α, l.length = n ∧ ∀ i, i < n → p i (l.getD i d) := by
  induction n with
  | zero => exact ⟨[], rfl, fun i hi => absurd hi (Nat.not_lt_zero i)⟩
  | succ n ih =>
    obtain ⟨l, hl, hp⟩ := ih (fun i hi => h i (by omega))
    obtain ⟨m, hm⟩ := h n (by omega)
    refine ⟨l ++ [m], by simp [hl], fun i hi => ?_⟩
    by_cases e : i = n
    · subst e
      rw [List.getD_eq_getElem?_getD, List.getElem?_append_right (by omega), hl]
      simpa using hm
    · have := hp i (by omega)
      rw [List.getD_eq_getElem?_getD] at this ⊢
      rwa [List.getElem?_append_left (by omega)]

section
variable {H : Type} {enc : TypeId × Value → H} {w : World} {base : Nat} {spare : Nat → Bool} {held : Bool}
theorem open_parts {fuel : Nat} {v : Value} {x : DataW H × List MemPlace} (h : DataW.trod enc Tryd.prog w base spare held fuel 37 [v] = some x) : ∃ a n cap l, v = .slice a n cap ∧ Came w a n cap l := by
  rcases open_slice_fields Tryd.underlying37 Tryd.underlying41 (by kernel_rfl) (by kernel_rfl) h with ⟨hcs, _⟩ | ⟨a, len, cap, m, hcs, hl, hm, hlm, hi⟩
  · injection hcs with hv
    exact ⟨none, 0, 0, [], hv, rfl, Nat.le_refl _, Nat.zero_le _, fun _ => ⟨rfl, rfl⟩, fun i hi => absurd hi (Nat.not_lt_zero i), fun m hm => by cases hm⟩
  · injection hcs with hv
    have hp : ∀ i, i < len → ∃ m : Int × Int, w.cell? (a.add (i * 2)) = some (.int .i64 m.1) ∧ w.cell? (a.add (i * 2 + 1)) = some (.int .i64 m.2) ∧ (Lit.int .i64 m.1).wf = true ∧ (Lit.int .i64 m.2).wf = true := by
      intro i hil
      obtain ⟨n, hf⟩ := hi i (by omega)
      obtain ⟨v0, y0, c0, t0⟩ := hf 0 _ rfl
      obtain ⟨v1, y1, c1, t1⟩ := hf 1 _ rfl
      obtain ⟨x0, e0, _, w0⟩ := DataW.trod_int Tryd.underlying3 t0
      obtain ⟨x1, e1, _, w1⟩ := DataW.trod_int Tryd.underlying3 t1
      injection e0 with e0
      injection e1 with e1
      subst e0 e1
      exact ⟨(x0, x1), c0, c1, w0, w1⟩
    obtain ⟨l, hll, hlp⟩ := list_of len _ hp
    refine ⟨some a, len, cap, l, hv, hll, hl, hm, (fun e => by cases e), fun i hi => ?_, fun m hm => ?_⟩
    · obtain ⟨c0, c1, _, _⟩ := hlp i (by omega)
      obtain ⟨b, off, spot⟩ := a
      have hs : spot = none := by
        have := World.cell?_spot c1
        by_cases h0 : spot = none
        · exact h0
        · have c00 := (hlp 0 (by omega)).1
          simpa [Addr.add] using World.cell?_spot c00
      subst hs
      refine ⟨b, off, rfl, ?_, ?_, ?_⟩
      · have := block_lt_of_cell c1
        simpa [Addr.add] using this
      · rw [Go.WideShapes.add_plain] at c0; exact c0
      · rw [Go.WideShapes.add_plain] at c1; exact c1
    · obtain ⟨i, hi, rfl⟩ := List.getElem_of_mem hm
      have := hlp i (by omega)
      rw [List.getD_eq_getElem?_getD, List.getElem?_eq_getElem hi] at this
      exact this.2.2

set_option maxRecDepth 100000 in
/-- Premises that came in. -/
theorem open_lins {r : Reach} {b0 : Nat} {v : Value} {d : DataW H} {p : List MemPlace} (hv : Value.okWide Tryd.prog w r b0 22 v) (h : DataW.Trod enc Tryd.prog w base spare held 22 v d p) :
    ∃ (a : Option Addr) (n cap : Nat) (ls : List (Int × List (Int × Int))), v = .slice a n cap ∧ ls.length = n ∧ n ≤ maxLen ∧ LLies w.heap.size w a ls ∧ (∀ i, i < n → (ls.getD i (0, [])).2.length ≤ 9223372036854775807) := by
  obtain ⟨a, len, cap, rfl⟩ := okWide_slice Tryd.underlying22 hv
  obtain ⟨fuel, hf⟩ := h
  rcases open_slice_fields Tryd.underlying22 Tryd.underlying49 (by kernel_rfl) (by kernel_rfl) hf with ⟨hcs, _⟩ | ⟨x, l, c, m, hcs, hl, hm, hlm, hi⟩
  · simp [Value.cells] at hcs
    obtain ⟨rfl, rfl, rfl⟩ := hcs
    exact ⟨none, 0, 0, [], rfl, rfl, Nat.zero_le _, fun i hi => absurd hi (Nat.not_lt_zero i), fun i hi => absurd hi (Nat.not_lt_zero i)⟩
  · simp [Value.cells] at hcs
    obtain ⟨rfl, rfl, rfl⟩ := hcs
    have hp : ∀ i, i < len → ∃ z : Int × List (Int × Int), ∃ ta tcap, w.cell? (x.add (i * 2)) = some (.int .i64 z.1) ∧ w.cell? (x.add (i * 2 + 1)) = some (.slice ta z.2.length tcap) ∧ Lies w.heap.size w ta z.2 ∧ z.2.length ≤ 9223372036854775807 := by
      intro i hil
      obtain ⟨n, hf⟩ := hi i (by omega)
      obtain ⟨v0, y0, c0, t0⟩ := hf 0 _ rfl
      obtain ⟨v1, y1, c1, t1⟩ := hf 1 _ rfl
      obtain ⟨x0, e0, _, w0⟩ := DataW.trod_int Tryd.underlying3 t0
      injection e0 with e0
      subst e0
      obtain ⟨ta, tn, tcap, tl, rfl, h1, h2, h3, _, h5, _⟩ := open_monos t1
      subst h1
      exact ⟨(x0, tl), ta, tcap, c0, c1, h5, by unfold maxLen at h3; show tl.length ≤ _; omega⟩
    obtain ⟨ls, hll, hlp⟩ := list_ofD ((0 : Int), ([] : List (Int × Int))) len _ hp
    refine ⟨some x, len, cap, ls, rfl, hll, Nat.le_trans hl hm, fun i hi => ?_, fun i hi => (hlp i hi).choose_spec.choose_spec.2.2.2⟩
    obtain ⟨ta, tcap, c0, c1, hli, _⟩ := hlp i (by omega)
    obtain ⟨b, off, spot⟩ := x
    have hs : spot = none := by
      have := World.cell?_spot c1
      by_cases h0 : spot = none
      · exact h0
      · obtain ⟨_, _, c00, _⟩ := hlp 0 (by omega)
        simpa [Addr.add] using World.cell?_spot c00
    subst hs
    refine ⟨b, off, ta, tcap, rfl, ?_, ?_, ?_, hli⟩
    · have := block_lt_of_cell c1
      simpa [Addr.add] using this
    · rw [Go.WideShapes.add_plain] at c0; exact c0
    · rw [Go.WideShapes.add_plain] at c1; exact c1
set_option maxRecDepth 100000 in
/-- Steps that came in. -/
theorem open_steps {r : Reach} {b0 : Nat} {v : Value} {d : DataW H} {p : List MemPlace} (hv : Value.okWide Tryd.prog w r b0 23 v) (h : DataW.Trod enc Tryd.prog w base spare held 23 v d p) :
    ∃ (a : Option Addr) (n cap : Nat) (ss : List (List (Int × Int) × Int)), v = .slice a n cap ∧ ss.length = n ∧ n ≤ maxLen ∧ SLies w.heap.size w a ss := by
  obtain ⟨a, len, cap, rfl⟩ := okWide_slice Tryd.underlying23 hv
  obtain ⟨fuel, hf⟩ := h
  rcases open_slice_fields Tryd.underlying23 Tryd.underlying39 (by kernel_rfl) (by kernel_rfl) hf with ⟨hcs, _⟩ | ⟨x, l, c, m, hcs, hl, hm, hlm, hi⟩
  · simp [Value.cells] at hcs
    obtain ⟨rfl, rfl, rfl⟩ := hcs
    exact ⟨none, 0, 0, [], rfl, rfl, Nat.zero_le _, fun i hi => absurd hi (Nat.not_lt_zero i)⟩
  · simp [Value.cells] at hcs
    obtain ⟨rfl, rfl, rfl⟩ := hcs
    have hp : ∀ i, i < len → ∃ z : List (Int × Int) × Int, ∃ ta tcap, w.cell? (x.add (i * 2)) = some (.slice ta z.1.length tcap) ∧ w.cell? (x.add (i * 2 + 1)) = some (.int .i64 z.2) ∧ Lies w.heap.size w ta z.1 ∧ z.1.length ≤ 9223372036854775807 := by
      intro i hil
      obtain ⟨n, hf⟩ := hi i (by omega)
      obtain ⟨v0, y0, c0, t0⟩ := hf 0 _ rfl
      obtain ⟨v1, y1, c1, t1⟩ := hf 1 _ rfl
      obtain ⟨x1, e1, _, w1⟩ := DataW.trod_int Tryd.underlying3 t1
      injection e1 with e1
      subst e1
      obtain ⟨ta, tn, tcap, tl, rfl, h1, h2, h3, _, h5, _⟩ := open_parts t0
      subst h1
      exact ⟨(tl, x1), ta, tcap, c0, c1, h5, by unfold maxLen at h3; show tl.length ≤ _; omega⟩
    obtain ⟨ss, hll, hlp⟩ := list_ofD (([] : List (Int × Int)), (0 : Int)) len _ hp
    refine ⟨some x, len, cap, ss, rfl, hll, Nat.le_trans hl hm, fun i hi => ?_⟩
    obtain ⟨ta, tcap, c0, c1, hli, hlm⟩ := hlp i (by omega)
    obtain ⟨b, off, spot⟩ := x
    have hs : spot = none := by
      have := World.cell?_spot c1
      by_cases h0 : spot = none
      · exact h0
      · obtain ⟨_, _, c00, _⟩ := hlp 0 (by omega)
        simpa [Addr.add] using World.cell?_spot c00
    subst hs
    refine ⟨b, off, ta, tcap, rfl, ?_, hlm, ?_, ?_, hli⟩
    · have := block_lt_of_cell c1
      simpa [Addr.add] using this
    · rw [Go.WideShapes.add_plain] at c0; exact c0
    · rw [Go.WideShapes.add_plain] at c1; exact c1
end
end Go.Proofs.YtmjhjacbhflcpaaDoor

namespace Go.Proofs.YtmjhjacbhflcpaaDoor
open Go.ChangeShapes Go.WideShapes Go.ChangeAt Go.RowKit
theorem Tryd.own : ownKnob Tryd.prog.godebug = none := by kernel_rfl
theorem Tryd.laidOut : laidOutB Tryd.prog = true := by kernel_rfl
end Go.Proofs.YtmjhjacbhflcpaaDoor

namespace Go.Proofs.YtmjhjacbhflcpaaDoor
open Go.ChangeShapes Go.WideShapes Go.ChangeAt Go.RowKit

theorem tmod3 (k : Int) : k.tmod 3 = 0 ∨ k.tmod 3 = 1 ∨ k.tmod 3 = -1 ∨ k.tmod 3 = 2 ∨ k.tmod 3 = -2 := by
  have h1 := Int.tmod_lt_of_pos k (show (0 : Int) < 3 by decide)
  have h2 := Int.lt_tmod_of_pos k (show (0 : Int) < 3 by decide)
  omega
theorem cutLong_any (hup : UpSaid4) (n which : Int) (w : World) (hg : Laid0 w) :
    Calls Tryd.prog 5 #[.int .i64 n, .int .i64 which] w fun e w' => e = .returned (.bool true) ∧ Below w.heap.size w w' := by
  by_cases h0 : n < 0
  · rcases tmod3 which with h | h | h | h | h
    · exact long0_lo hup n which w h0 h
    · exact long1p_lo hup n which w h0 h
    · exact long1m_lo hup n which w h0 h
    · exact long2p_lo hup n which w h0 h hg
    · exact long2m_lo hup n which w h0 h hg
  · by_cases h1 : 5000 < n
    · rcases tmod3 which with h | h | h | h | h
      · exact long0_hi hup n which w h1 h
      · exact long1p_hi hup n which w h1 h
      · exact long1m_hi hup n which w h1 h
      · exact long2p_hi hup n which w h1 h hg
      · exact long2m_hi hup n which w h1 h hg
    · have hm := (Int.toNat_of_nonneg (show 0 ≤ n by omega)).symm
      rcases tmod3 which with h | h | h | h | h
      · exact long0_n hup n which n.toNat w (by omega) hm h
      · exact long1p_n hup n which n.toNat w (by omega) hm h
      · exact long1m_n hup n which n.toNat w (by omega) hm h
      · exact long2p_n hup n which n.toNat w (by omega) hm h hg
      · exact long2m_n hup n which n.toNat w (by omega) hm h hg

/-! The listed variable. -/
theorem Tryd.et : Tryd.prog.globalNamed "errors.errorType" = some 0 := by kernel_rfl
theorem Tryd.rt : (Tryd.prog.cutTypes.find? (·.1 == "internal/reflectlite.rtype")).map (·.2) = some 93 := by kernel_rfl
theorem Tryd.oneRow : ((List.range 160).filter fun t => Tryd.prog.rowNamed t [101, 114, 114, 111, 114]) = [27] := by kernel_rfl
theorem Tryd.size : Tryd.prog.types.size = 160 := by kernel_rfl
def laidL : List (String × DataW Unit) := [("errors.errorType", Rows.laid_errors_errorType)]
theorem handle_of_laid {W : World} (h : laidMetH Tryd.prog laidL W) : Laid0 W := by
  have h' : laidMet Tryd.prog [] W ∧ handlesMet Tryd.prog laidL W := h
  obtain ⟨name, u, ty, e1, e2, e3, e4, e5⟩ := h'.2 _ (List.mem_singleton.2 rfl)
  have en : name = [101, 114, 114, 111, 114] := (Option.some.inj e1).symm
  subst en
  obtain rfl := Option.some.inj (Tryd.rt.symm.trans e2)
  have hm : ty ∈ (List.range 160).filter fun t => Tryd.prog.rowNamed t [101, 114, 114, 111, 114] := List.mem_filter.2 ⟨List.mem_range.2 (by rw [← Tryd.size]; exact e3), e4⟩
  rw [Tryd.oneRow] at hm
  obtain rfl := List.mem_singleton.1 hm
  have hh : typeHandle Tryd.prog 27 = .pointer (some ⟨1, 27, none⟩) := by kernel_rfl
  rw [hh] at e5
  unfold Laid0
  simpa using World.var?_cell Tryd.et e5 0
noncomputable def laidWorld (os : Os) : World :=
  let w0 := World.holding Tryd.prog os ⟨#[], #[], []⟩
  { w0 with heap := w0.heap.modify 0 fun
      | .cells _ t frozen => .cells #[.iface 93 (.agg #[.pointer (some ⟨1, 27, none⟩)])] t frozen
      | o => o }
theorem laidWorld_met (os : Os) (args : Array Value) : laidMetH Tryd.prog laidL ((laidWorld os).forCall (fun _ _ => 0) ⟨#[], args, []⟩).memory :=
  laidMetH_of_parts (laidMet_nil _ _) (by kernel_rfl)

set_option maxRecDepth 100000 in
theorem cutLong_lifted (hup : UpSaid4) (os : Os) (started : os.Started) (H : Type) (enc : TypeId × Value → H) :
    ReturnsInHanded {} Tryd.checked os 5 .any (fun w args => (Rows.cutLongSpec.pre enc Tryd.prog Tryd.f5 [] false w args ∧ laidMetH Tryd.prog laidL w) ∧ sizedMet enc Tryd.prog Tryd.f5 (OpenSpec.ofChange Rows.cutLongSpec) false w args)
      (Rows.cutLongSpec.post enc Tryd.prog Tryd.f5 false true false false) := by
  refine returnsInHanded_of_change_and (C := Tryd.checked) (X := fun w _ => laidMetH Tryd.prog laidL w) (fun _ _ _ hh h => h.of_heap hh) Tryd.own started (by kernel_rfl) Tryd.func5
    (ChangeSpec.witness_at (enc := enc) (C := Tryd.checked) (os := os) (X := fun w _ => laidMetH Tryd.prog laidL w) false (laidWorld os) #[.int .i64 0, .int .i64 0] 8 rfl (by kernel_rfl) (by kernel_rfl) (by kernel_rfl) (by kernel_rfl) (by kernel_rfl) (laidWorld_met os _)) ?_
  intro W base args ds gs before hval0 hW _ _ hL _
  have hval : ∀ (j : Nat) t v, Tryd.f5.params[j]? = some t → args[j]? = some v → Value.okWide Tryd.prog W .any base t v := hval0
  have hW' := hW
  obtain ⟨p, q, hA0, hV, rfl, hfz, hnd⟩ := hW
  have hA : DataW.TrodAll enc Tryd.prog W 0 (fun _ => true) true Tryd.f5.params.toList args.toList ds p := hA0
  rw [Tryd.params5] at hA hval
  obtain ⟨v0, vs0, d0, ds0, p0, q0, hargs, rfl, rfl, h0, r0⟩ := trodAll_cons hA
  obtain ⟨v1, vs1, d1, ds1, p1, q1, rfl, rfl, rfl, h1, r1⟩ := trodAll_cons r0
  obtain ⟨rfl, rfl, rfl⟩ := trodAll_nil r1
  obtain rfl : args = #[v0, v1] := by cases args; simp_all
  obtain ⟨rfl, rfl⟩ := trodVars_none hV
  have k0 := h0
  have lt0 : ∀ x ∈ p0, x.block < W.heap.size := by obtain ⟨m, hm⟩ := k0; exact DataW.trod_lt m _ _ _ hm
  have k1 := h1
  have lt1 : ∀ x ∈ p1, x.block < W.heap.size := by obtain ⟨m, hm⟩ := k1; exact DataW.trod_lt m _ _ _ hm
  obtain ⟨n, rfl, _, _, wf0⟩ := open_int Tryd.underlying3 (hval 0 3 v0 rfl rfl) h0
  obtain ⟨which, rfl, _, _, wf1⟩ := open_int Tryd.underlying3 (hval 1 3 v1 rfl rfl) h1
  have hg := handle_of_laid hL
  clear hA0 hval0
  refine (cutLong_any hup n which W hg).mono fun e W' ⟨he, bel⟩ => ?_
  subst he
  exact ⟨_, rfl, _, _, _, [], _, [], hW', trodAll_mk1 (shut_bool Tryd.underlying4 _), (trodAll_cons_mk (Below.trod Tryd.laidOut (by kernel_rfl) (of_decide_eq_true (by kernel_rfl)) k0 bel lt0) (trodAll_cons_mk (Below.trod Tryd.laidOut (by kernel_rfl) (of_decide_eq_true (by kernel_rfl)) k1 bel lt1) trodAll_mk0)), rfl, bel.frame _, fun h => by cases h⟩

theorem cutLong_over (hup : UpSaid4) : Rows.CutLongSaid :=
  OpenClaim.holds_of_wide 5 Tryd.f5 rfl rfl rfl rfl rfl rfl rfl ⟨rfl, rfl, rfl, rfl, rfl⟩ rfl rfl rfl rfl rfl (by kernel_rfl) Tryd.func5 (by kernel_rfl)
    (of_decide_eq_true (by kernel_rfl)) (by unfold Func.isWrapper; first | (rw [if_pos (by decide +kernel)]; kernel_rfl) | (rw [if_neg (by decide +kernel)]; exact ⟨rfl, rfl⟩))
    (fun os started H enc _ => cutLong_lifted hup os started H enc)
end Go.Proofs.YtmjhjacbhflcpaaDoor

namespace Go.Proofs.YtmjhjacbhflcpaaDoor
open Go.ChangeShapes Go.WideShapes Go.ChangeAt Go.RowKit

set_option maxRecDepth 100000 in
theorem cutLines_lifted (hup : UpSaid4) (os : Os) (started : os.Started) (H : Type) (enc : TypeId × Value → H) :
    ReturnsInHanded {} Tryd.checked os 3 .any (fun w args => (Rows.cutLinesSpec.pre enc Tryd.prog Tryd.f3 [] false w args ∧ laidMetH Tryd.prog laidL w) ∧ sizedMet enc Tryd.prog Tryd.f3 (OpenSpec.ofChange Rows.cutLinesSpec) false w args)
      (Rows.cutLinesSpec.post enc Tryd.prog Tryd.f3 false true false false) := by
  refine returnsInHanded_of_change_and (C := Tryd.checked) (X := fun w _ => laidMetH Tryd.prog laidL w) (fun _ _ _ hh h => h.of_heap hh) Tryd.own started (by kernel_rfl) Tryd.func3
    (ChangeSpec.witness_at (enc := enc) (C := Tryd.checked) (os := os) (X := fun w _ => laidMetH Tryd.prog laidL w) false (laidWorld os) #[.slice none 0 0, .slice none 0 0] 8 rfl (by kernel_rfl) (by kernel_rfl) (by kernel_rfl) (by kernel_rfl) (by kernel_rfl) (laidWorld_met os _)) ?_
  intro W base args ds gs before hval0 hW _ _ hL _
  have hval : ∀ (j : Nat) t v, Tryd.f3.params[j]? = some t → args[j]? = some v → Value.okWide Tryd.prog W .any base t v := hval0
  have hW' := hW
  obtain ⟨p, q, hA0, hV, rfl, hfz, hnd⟩ := hW
  have hA : DataW.TrodAll enc Tryd.prog W 0 (fun _ => true) true Tryd.f3.params.toList args.toList ds p := hA0
  rw [Tryd.params3] at hA hval
  obtain ⟨v0, vs0, d0, ds0, p0, q0, hargs, rfl, rfl, h0, r0⟩ := trodAll_cons hA
  obtain ⟨v1, vs1, d1, ds1, p1, q1, rfl, rfl, rfl, h1, r1⟩ := trodAll_cons r0
  obtain ⟨rfl, rfl, rfl⟩ := trodAll_nil r1
  obtain rfl : args = #[v0, v1] := by cases args; simp_all
  obtain ⟨rfl, rfl⟩ := trodVars_none hV
  have k0 := h0
  have lt0 : ∀ x ∈ p0, x.block < W.heap.size := by obtain ⟨m, hm⟩ := k0; exact DataW.trod_lt m _ _ _ hm
  have k1 := h1
  have lt1 : ∀ x ∈ p1, x.block < W.heap.size := by obtain ⟨m, hm⟩ := k1; exact DataW.trod_lt m _ _ _ hm
  obtain ⟨a, n, cap, ls, rfl, hln0, hnm0, hll0, hlm0⟩ := open_lins (hval 0 22 v0 rfl rfl) h0
  have hm0 : n ≤ 9223372036854775807 := by unfold maxLen at hnm0; omega
  obtain ⟨sa, sn, scap, ss, rfl, hln1, hnm1, hsl1⟩ := open_steps (hval 1 23 v1 rfl rfl) h1
  have hm1 : sn ≤ 9223372036854775807 := by unfold maxLen at hnm1; omega
  have hg := handle_of_laid hL
  clear hA0 hval0
  refine (cutLines_any hup a n cap ls sa sn scap ss W (Given.mk hln0 hll0 hlm0 hln1 hsl1 hm0 hm1) hg).mono fun e W' ⟨he, bel⟩ => ?_
  subst he
  exact ⟨_, rfl, _, _, _, [], _, [], hW', trodAll_mk1 (shut_bool Tryd.underlying4 _), (trodAll_cons_mk (Below.trod Tryd.laidOut (by kernel_rfl) (of_decide_eq_true (by kernel_rfl)) k0 bel lt0) (trodAll_cons_mk (Below.trod Tryd.laidOut (by kernel_rfl) (of_decide_eq_true (by kernel_rfl)) k1 bel lt1) trodAll_mk0)), rfl, bel.frame _, fun h => by cases h⟩

theorem cutLines_over (hup : UpSaid4) : Rows.CutLinesSaid :=
  OpenClaim.holds_of_wide 3 Tryd.f3 rfl rfl rfl rfl rfl rfl rfl ⟨rfl, rfl, rfl, rfl, rfl⟩ rfl rfl rfl rfl rfl (by kernel_rfl) Tryd.func3 (by kernel_rfl)
    (of_decide_eq_true (by kernel_rfl)) (by unfold Func.isWrapper; first | (rw [if_pos (by decide +kernel)]; kernel_rfl) | (rw [if_neg (by decide +kernel)]; exact ⟨rfl, rfl⟩))
    (fun os started H enc _ => cutLines_lifted hup os started H enc)
end Go.Proofs.YtmjhjacbhflcpaaDoor

namespace Go.Proofs.YtmjhjacbhflcpaaDoor
open Go.RowKit Go.Maps

set_option maxRecDepth 100000 in
set_option maxHeartbeats 2000000 in
theorem cutRefutes_any (hup : UpSaid4) (a : Option Addr) (n cap : Nat) (ls : List (Int × List (Int × Int))) (sa : Option Addr) (sn scap : Nat) (ss : List (List (Int × Int) × Int)) (w : World) (h : Given w.heap.size w a n ls sa sn ss) (hg : Laid0 w) :
    Calls Tryd.prog 4 #[.slice a n cap, .slice sa sn scap] w fun e w' => e = .returned (.bool true) ∧ Below w.heap.size w w' := by
  obtain ⟨x, at', L, hL⟩ := lines_is ls ss
  have HUP := Lib.hid (fun W => hup W)
  have HLI := Lib.hid (fun W (hb : Below w.heap.size w W) => light_any a n cap ls sa sn scap ss W ((h.below hb).mono hb.size))
  have HRF := Lib.hid (fun W (hb : Below w.heap.size w W) => refutes_any a n cap ls sa sn scap ss W ((h.below hb).mono hb.size) x at' L hL)
  have HRR := Lib.hid (fun W (hb : Below w.heap.size w W) => rrefutes_any a n cap ls sa sn scap ss W ((h.below hb).mono hb.size) x at' L hL)
  have HLD := Lib.hid (fun W (hb : Below w.heap.size w W) => hg.below hb hg.pos)
  have HCD := Lib.hid (refX_code hL)
  clear hup h hL hg
  go_enter Tryd.func4, Tryd.ntmps4
  go_wp2_with fail
  refine (HUP.out _).mono ?_
  rintro e w1 ⟨rfl, hb1⟩
  have B1 := Lib.hid hb1
  clear hb1
  go_wp2_with fail
  refine (HLI.out _ B1.out).mono ?_
  rintro e w2 ⟨b, rfl, rfl⟩
  clear HUP HLI
  cases b with
  | false =>
    go_wp2_with fail
    go_ret
    exact ⟨rfl, B1.out⟩
  | true =>
    go_wp2_with fail
    refine (HRF.out _ B1.out).mono ?_
    rintro e w3 ⟨er3, rfl, her3, hb3⟩
    have B3 := Lib.hid (B1.out.trans (hb3.mono B1.out.size))
    have EY := Lib.hid her3
    clear her3 hb3 HRF
    go_wp2_with fail
    refine (HRR.out _ B3.out).mono ?_
    rintro e w4 ⟨rfl, hb4⟩
    have B4 := Lib.hid (B3.out.trans (hb4.mono B3.out.size))
    have HTD := Lib.hid (fun W (hb : Below w4.heap.size w4 W) => told_any ((EY.out.below hb4).below hb) HCD.out.1 HCD.out.2 (HLD.out W (B4.out.trans (hb.mono B4.out.size))))
    generalize refX x L = y at HTD
    have cT := fun p os => Calls.regrown_of (HTD.out _ (regrown_trans (Below.refl w4.heap.size w4) (Nat.le_refl _) p os))
    clear hb4 EY HCD HRR B3 HLD
    go_wp2_with fail
    first
    | (refine (HTD.out _ (Below.refl _ _)).mono ?_
       rintro e w5 ⟨rfl, hb5⟩
       have B5 := Lib.hid (B4.out.trans (hb5.mono B4.out.size))
       clear hb5
       go_wp2_with fail
       go_ret
       exact ⟨rfl, B5.out⟩)
    | (refine wp_region_quiet_below (by kernel_rfl) (by kernel_rfl) ?_
       repeat (go_big_quiet_step (with_reducible exact cT _ _))
       refine wpQuiet_nil ?_
       intro _ hw'
       obtain ⟨⟨dq, osq⟩, hw''⟩ := hw'
       subst hw''
       go_wp2_with fail
       go_ret
       exact ⟨rfl, regrown_trans B4.out B4.out.size dq osq⟩)
end Go.Proofs.YtmjhjacbhflcpaaDoor

namespace Go.Proofs.YtmjhjacbhflcpaaDoor
open Go.ChangeShapes Go.WideShapes Go.ChangeAt Go.RowKit

set_option maxRecDepth 100000 in
theorem cutRefutes_lifted (hup : UpSaid4) (os : Os) (started : os.Started) (H : Type) (enc : TypeId × Value → H) :
    ReturnsInHanded {} Tryd.checked os 4 .any (fun w args => (Rows.cutRefutesSpec.pre enc Tryd.prog Tryd.f4 [] false w args ∧ laidMetH Tryd.prog laidL w) ∧ sizedMet enc Tryd.prog Tryd.f4 (OpenSpec.ofChange Rows.cutRefutesSpec) false w args)
      (Rows.cutRefutesSpec.post enc Tryd.prog Tryd.f4 false true false false) := by
  refine returnsInHanded_of_change_and (C := Tryd.checked) (X := fun w _ => laidMetH Tryd.prog laidL w) (fun _ _ _ hh h => h.of_heap hh) Tryd.own started (by kernel_rfl) Tryd.func4
    (ChangeSpec.witness_at (enc := enc) (C := Tryd.checked) (os := os) (X := fun w _ => laidMetH Tryd.prog laidL w) false (laidWorld os) #[.slice none 0 0, .slice none 0 0] 8 rfl (by kernel_rfl) (by kernel_rfl) (by kernel_rfl) (by kernel_rfl) (by kernel_rfl) (laidWorld_met os _)) ?_
  intro W base args ds gs before hval0 hW _ _ hL _
  have hval : ∀ (j : Nat) t v, Tryd.f4.params[j]? = some t → args[j]? = some v → Value.okWide Tryd.prog W .any base t v := hval0
  have hW' := hW
  obtain ⟨p, q, hA0, hV, rfl, hfz, hnd⟩ := hW
  have hA : DataW.TrodAll enc Tryd.prog W 0 (fun _ => true) true Tryd.f4.params.toList args.toList ds p := hA0
  rw [Tryd.params4] at hA hval
  obtain ⟨v0, vs0, d0, ds0, p0, q0, hargs, rfl, rfl, h0, r0⟩ := trodAll_cons hA
  obtain ⟨v1, vs1, d1, ds1, p1, q1, rfl, rfl, rfl, h1, r1⟩ := trodAll_cons r0
  obtain ⟨rfl, rfl, rfl⟩ := trodAll_nil r1
  obtain rfl : args = #[v0, v1] := by cases args; simp_all
  obtain ⟨rfl, rfl⟩ := trodVars_none hV
  have k0 := h0
  have lt0 : ∀ x ∈ p0, x.block < W.heap.size := by obtain ⟨m, hm⟩ := k0; exact DataW.trod_lt m _ _ _ hm
  have k1 := h1
  have lt1 : ∀ x ∈ p1, x.block < W.heap.size := by obtain ⟨m, hm⟩ := k1; exact DataW.trod_lt m _ _ _ hm
  obtain ⟨a, n, cap, ls, rfl, hln0, hnm0, hll0, hlm0⟩ := open_lins (hval 0 22 v0 rfl rfl) h0
  have hm0 : n ≤ 9223372036854775807 := by unfold maxLen at hnm0; omega
  obtain ⟨sa, sn, scap, ss, rfl, hln1, hnm1, hsl1⟩ := open_steps (hval 1 23 v1 rfl rfl) h1
  have hm1 : sn ≤ 9223372036854775807 := by unfold maxLen at hnm1; omega
  have hg := handle_of_laid hL
  clear hA0 hval0
  refine (cutRefutes_any hup a n cap ls sa sn scap ss W (Given.mk hln0 hll0 hlm0 hln1 hsl1 hm0 hm1) hg).mono fun e W' ⟨he, bel⟩ => ?_
  subst he
  exact ⟨_, rfl, _, _, _, [], _, [], hW', trodAll_mk1 (shut_bool Tryd.underlying4 _), (trodAll_cons_mk (Below.trod Tryd.laidOut (by kernel_rfl) (of_decide_eq_true (by kernel_rfl)) k0 bel lt0) (trodAll_cons_mk (Below.trod Tryd.laidOut (by kernel_rfl) (of_decide_eq_true (by kernel_rfl)) k1 bel lt1) trodAll_mk0)), rfl, bel.frame _, fun h => by cases h⟩

theorem cutRefutes_over (hup : UpSaid4) : Rows.CutRefutesSaid :=
  OpenClaim.holds_of_wide 4 Tryd.f4 rfl rfl rfl rfl rfl rfl rfl ⟨rfl, rfl, rfl, rfl, rfl⟩ rfl rfl rfl rfl rfl (by kernel_rfl) Tryd.func4 (by kernel_rfl)
    (of_decide_eq_true (by kernel_rfl)) (by unfold Func.isWrapper; first | (rw [if_pos (by decide +kernel)]; kernel_rfl) | (rw [if_neg (by decide +kernel)]; exact ⟨rfl, rfl⟩))
    (fun os started H enc _ => cutRefutes_lifted hup os started H enc)
end Go.Proofs.YtmjhjacbhflcpaaDoor
