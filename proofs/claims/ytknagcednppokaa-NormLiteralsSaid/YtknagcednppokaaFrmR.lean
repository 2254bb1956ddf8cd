/- How a formula that came in lies in memory. -/
import Derived.Test.YtknagcednppokaaFrmA
import Derived.Test.YtknagcednppokaaLinR
namespace Go.Proofs.Ytknagcednppokaa
open Go.ChangeShapes Go.WideShapes Go.RowKit Go.Deep

theorem FLies.succ {B : Nat} {w : World} : ∀ {n : Nat} {f : FT} {cs : List Value}, FLies B w n f cs → FLies B w (n + 1) f cs
  | 0, _, _, h => h.elim
  | n + 1, f, cs, ⟨ta, tcap, ka, kcap, h1, h2, h3, h4, h5⟩ => ⟨ta, tcap, ka, kcap, h1, h2, h3, h4, fun i hi => by
    obtain ⟨b, off, c0, c1, c2, c3, e, hlt, g0, g1, g2, g3, hf⟩ := h5 i hi
    exact ⟨b, off, c0, c1, c2, c3, e, hlt, g0, g1, g2, g3, hf.succ⟩⟩

theorem list_of_any {α : Type} [Inhabited α] (n : Nat) (p : Nat → α → Prop) (h : ∀ i, i < n → ∃ m, p i m) : ∃ l : List α, l.length = n ∧ ∀ i, i < n → p i (l.getD i default) := by
  induction n with
  | zero => exact ⟨[], rfl, fun i hi => absurd hi (Nat.not_lt_zero i)⟩
  | succ n ih =>
    obtain ⟨l, hl, hp⟩ := ih (fun i hi => h i (by omega))
    obtain ⟨m, hm⟩ := h n (by omega)
    refine ⟨l ++ [m], by simp [hl], fun i hi => ?_⟩
    by_cases e : i = n
    · subst e
      rw [List.getD_eq_getElem?_getD, List.getElem?_append_right (by omega), hl]
      simpa using hm
    · have := hp i (by omega)
      rw [List.getD_eq_getElem?_getD] at this ⊢
      rwa [List.getElem?_append_left (by omega)]

theorem list4 {α : Type} {l : List α} (h : l.length = 4) : ∃ a b c d, l = [a, b, c, d] := by
  match l, h with
  | [a, b, c, d], _ => exact ⟨a, b, c, d, rfl⟩

section
variable {H : Type} {enc : TypeId × Value → H} {w : World} {base : Nat} {spare : Nat → Bool} {held : Bool}
set_option maxRecDepth 100000 in
theorem open_form_cells : ∀ (N : Nat) {fuel : Nat} {cs : List Value} {x : DataW H × List MemPlace}, fuel ≤ N → DataW.trod enc Try.prog w base spare held fuel 28 cs = some x → ∃ f, FLies w.heap.size w N f cs
  | 0, fuel, cs, x, hN, h => by
    obtain ⟨xs, n, rfl, _⟩ := DataW.trod_struct Try.underlying28 h
    omega
  | N + 1, fuel, cs, x, hN, h => by
    have IH := @open_form_cells N
    obtain ⟨xs, n, rfl, _, hl, hlen, hf⟩ := DataW.trod_struct Try.underlying28 h
    obtain ⟨c0, c1, c2, c3, rfl⟩ := list4 (hl.trans (by kernel_rfl))
    have e1 : Try.prog.cellsOf 3 = 1 := by kernel_rfl
    have e2 : Try.prog.cellsOf 24 = 2 := by kernel_rfl
    have e3 : Try.prog.cellsOf 26 = 1 := by kernel_rfl
    have e4 : Try.prog.cellsOf 28 = 4 := by kernel_rfl
    have e5 : Try.prog.cellsOf 22 = 1 := by kernel_rfl
    have hx : ∀ i, i < 3 → ∃ y, xs[i]? = some y := fun i hi => ⟨_, List.getElem?_eq_getElem (by rw [hlen]; exact hi)⟩
    have h0 : DataW.trod enc Try.prog w base spare held n 3 [c0] = xs[0]? := by
      have : DataW.trod enc Try.prog w base spare held n 3 ((([c0, c1, c2, c3] : List Value).drop 0).take (Try.prog.cellsOf 3)) = xs[0]? := hf 0 _ rfl
      rw [e1] at this
      exact this
    have h1 : DataW.trod enc Try.prog w base spare held n 24 [c1, c2] = xs[1]? := by
      have : DataW.trod enc Try.prog w base spare held n 24 ((([c0, c1, c2, c3] : List Value).drop 1).take (Try.prog.cellsOf 24)) = xs[1]? := hf 1 _ rfl
      rw [e2] at this
      exact this
    have h2 : DataW.trod enc Try.prog w base spare held n 26 [c3] = xs[2]? := by
      have : DataW.trod enc Try.prog w base spare held n 26 ((([c0, c1, c2, c3] : List Value).drop 3).take (Try.prog.cellsOf 26)) = xs[2]? := hf 2 _ rfl
      rw [e3] at this
      exact this
    obtain ⟨y0, z0⟩ := hx 0 (by omega)
    obtain ⟨y1, z1⟩ := hx 1 (by omega)
    obtain ⟨y2, z2⟩ := hx 2 (by omega)
    rw [z0] at h0
    rw [z1] at h1
    rw [z2] at h2
    clear hf hx z0 z1 z2
    obtain ⟨k, ek, _, _⟩ := DataW.trod_int Try.underlying3 h0
    obtain ⟨xs', n', _, _, _, hlen', hf'⟩ := DataW.trod_struct Try.underlying24 h1
    have hx' : ∀ i, i < 2 → ∃ y, xs'[i]? = some y := fun i hi => ⟨_, List.getElem?_eq_getElem (by rw [hlen']; exact hi)⟩
    have g0 : DataW.trod enc Try.prog w base spare held n' 3 [c1] = xs'[0]? := by
      have : DataW.trod enc Try.prog w base spare held n' 3 ((([c1, c2] : List Value).drop 0).take (Try.prog.cellsOf 3)) = xs'[0]? := hf' 0 _ rfl
      rw [e1] at this
      exact this
    have g1 : DataW.trod enc Try.prog w base spare held n' 22 [c2] = xs'[1]? := by
      have : DataW.trod enc Try.prog w base spare held n' 22 ((([c1, c2] : List Value).drop 1).take (Try.prog.cellsOf 22)) = xs'[1]? := hf' 1 _ rfl
      rw [e5] at this
      exact this
    obtain ⟨y3, z3⟩ := hx' 0 (by omega)
    obtain ⟨y4, z4⟩ := hx' 1 (by omega)
    rw [z3] at g0
    rw [z4] at g1
    obtain ⟨c, ec, _, _⟩ := DataW.trod_int Try.underlying3 g0
    obtain ⟨ta, tn, tcap, l, et, htl, htn, htc, _, hlies, _⟩ := open_monos g1
    injection ek with ek
    injection ec with ec
    subst ek ec et
    have htm : tn ≤ 9223372036854775807 := by unfold maxLen at htc; omega
    subst htl
    clear hf' hx' z3 z4 g0 g1 h0 h1
    rcases DataW.trod_slice Try.underlying26 h2 with ⟨h3, _⟩ | ⟨a, len, cap, elems, rest, n2, hn2, h3, _, _, hlc, hcm, hel, hat, _, _⟩
    · injection h3 with h3
      subst h3
      exact ⟨.mk k c l [], ta, tcap, none, 0, rfl, hlies, htm, by simp [FT.ks], fun i hi => absurd hi (by simp [FT.ks])⟩
    · injection h3 with h3
      subst h3
      have hp : ∀ i, i < len → ∃ g : FT, ∃ b off c0 c1 c2 c3, a = ⟨b, off, none⟩ ∧ b < w.heap.size ∧ w.cell? ⟨b, off + i * 4, none⟩ = some c0 ∧ w.cell? ⟨b, off + i * 4 + 1, none⟩ = some c1 ∧ w.cell? ⟨b, off + i * 4 + 2, none⟩ = some c2 ∧ w.cell? ⟨b, off + i * 4 + 3, none⟩ = some c3 ∧ FLies w.heap.size w N g [c0, c1, c2, c3] := by
        intro i hi
        have hc := hat i hi
        rw [List.getElem?_eq_getElem (by omega)] at hc
        obtain ⟨cs', k1, k2⟩ := Option.bind_eq_some_iff.1 hc
        obtain ⟨g, hg⟩ := IH (by omega) k2
        obtain ⟨_, hcl, hat'⟩ := World.cells?_some k1
        rw [e4] at hcl
        obtain ⟨d0, d1, d2, d3, rfl⟩ := list4 hcl
        have q0 := hat' 0 (by rw [e4]; omega)
        have q1 := hat' 1 (by rw [e4]; omega)
        have q2 := hat' 2 (by rw [e4]; omega)
        have q3 := hat' 3 (by rw [e4]; omega)
        rw [Go.Deep.add_add, e4] at q0 q1 q2 q3
        obtain ⟨b, off, spot⟩ := a
        have hs : spot = none := by
          have hc0 := hat 0 (by omega)
          rw [List.getElem?_eq_getElem (by omega)] at hc0
          obtain ⟨cs0, u1, _⟩ := Option.bind_eq_some_iff.1 hc0
          obtain ⟨_, ucl, uat⟩ := World.cells?_some u1
          rw [e4] at ucl
          obtain ⟨_, _, _, _, rfl⟩ := list4 ucl
          have u0 := uat 0 (by rw [e4]; omega)
          rw [Go.Deep.add_add, e4] at u0
          simpa [Addr.add] using World.cell?_spot u0
        subst hs
        rw [Go.WideShapes.add_plain] at q0 q1 q2 q3
        exact ⟨g, b, off, d0, d1, d2, d3, rfl, by simpa using block_lt_of_cell q0, q0, q1, q2, q3, hg⟩
      obtain ⟨ks, hks, hkp⟩ := list_of_any len _ hp
      subst hks
      refine ⟨.mk k c l ks, ta, tcap, some a, cap, rfl, hlies, htm, by unfold maxLen at hcm; simp only [FT.ks]; omega, fun i hi => ?_⟩
      obtain ⟨b, off, d0, d1, d2, d3, ha, r⟩ := hkp i hi
      exact ⟨b, off, d0, d1, d2, d3, by rw [ha], r⟩

set_option maxRecDepth 100000 in
/-- A formula that came in. -/
theorem open_form {r : Reach} {b0 : Nat} {v : Value} {d : DataW H} {p : List MemPlace} (hv : Value.okWide Try.prog w r b0 28 v) (h : DataW.Trod enc Try.prog w base spare held 28 v d p) :
    ∃ n f cs, v = .agg cs.toArray ∧ FLies w.heap.size w n f cs := by
  obtain ⟨cs, rfl, hsz⟩ := okWide_struct Try.underlying28 hv
  obtain ⟨fuel, hf⟩ := h
  obtain ⟨f, hl⟩ := open_form_cells fuel (Nat.le_refl _) hf
  refine ⟨fuel, f, cs.toList, rfl, ?_⟩
  simpa [Value.cells] using hl
end
end Go.Proofs.Ytknagcednppokaa
