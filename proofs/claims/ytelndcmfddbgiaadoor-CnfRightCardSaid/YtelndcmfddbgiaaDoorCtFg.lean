/- How the arguments of layer 1 read: a list of terms, a form. How a formula that came in lies in memory. What the frames of the tied cards share: the listed tables, laid. -/
import Derived.Test.YtelndcmfddbgiaaDoorCt02
import Derived.Test.YtelndcmfddbgiaaDoorCt06
import Derived.Test.YtelndcmfddbgiaaDoorCt24
import Derived.Test.YtelndcmfddbgiaaDoorRows
import Derived.ProofKit
import Derived.OpenShut
import Derived.ChangeOld
import Derived.Deep.Slices
import Derived.Deep.Fields
import Derived.Lib.SmallJoins
import Derived.ChangeSame
import Derived.ChangeVars
import Derived.JoinedOf
import Derived.RowKit
import Derived.RowKitTokens
import Derived.LaidLaws
import Derived.LaidHandle
import Derived.Stop.Joined
import Derived.BigQuiet
import Derived.Lib.LaidTab
import Derived.Lib.AppendIntMem
set_option linter.unusedVariables false
set_option linter.unusedSimpArgs false
namespace Go.Proofs.YtelndcmfddbgiaaDoor
open Go.ChangeShapes Go.WideShapes Go.RowKit Go.Deep

section
variable {H : Type} {enc : TypeId × Value → H} {P : Program} {w : World} {base : Nat} {spare : Nat → Bool} {held : Bool}
/-- A slice of structs of one-cell fields. -/
theorem open_slice_fields {t e : TypeId} {fs : Array Field} {fuel : Nat} {cs : List Value} {x : DataW H × List MemPlace} (ht : P.underlying t = some (.slice e)) (he : P.underlying e = some (.struct fs))
    (hone : oneCellFields P fs = true) (hC : P.cellsOf e = fs.size) (h : DataW.trod enc P w base spare held fuel t cs = some x) :
    (cs = [.slice none 0 0] ∧ x = (.nil, [])) ∨
    ∃ (a : Addr) (len cap m : Nat), cs = [.slice (some a) len cap] ∧ len ≤ cap ∧ cap ≤ maxLen ∧ len ≤ m ∧
      ∀ i, i < m → ∃ (n : Nat),
        ∀ (j : Nat) (f : Field), fs[j]? = some f → ∃ (v : Value) (y : DataW H × List MemPlace), w.cell? (a.add (i * fs.size + j)) = some v ∧ DataW.trod enc P w base spare held n f.type [v] = some y := by
  rcases open_slice ht h with h0 | ⟨a, len, cap, m, n, D, Pl, hcs, _, hl, hm, hmm, _, hi⟩
  · exact .inl h0
  · refine .inr ⟨a, len, cap, m, hcs, hl, hm, by rw [hmm]; split <;> omega, fun i him => ?_⟩
    obtain ⟨cs', hc, ht'⟩ := hi i him
    rw [hC] at hc
    obtain ⟨ys, n', _, _, _, hyl, hf⟩ := DataW.trod_struct he ht'
    obtain ⟨_, hcl, hat⟩ := World.cells?_some hc
    refine ⟨n', fun j f hj => ?_⟩
    obtain ⟨ho, hk⟩ := hone_of hone j f hj
    have hjl : j < fs.size := (Array.getElem?_eq_some_iff.1 hj).1
    have hcell := hat j hjl
    have hv : cs'[j]? = some (cs'[j]'(by omega)) := List.getElem?_eq_getElem (by omega)
    have h1 := hf j f hj
    rw [ho, hk] at h1
    have hone' : (cs'.drop j).take 1 = [cs'[j]'(by omega)] := by
      rw [List.drop_eq_getElem_cons (by omega)]
      rfl
    rw [hone'] at h1
    have hys : ys[j]? = some (ys[j]'(by omega)) := List.getElem?_eq_getElem (by omega)
    refine ⟨_, _, ?_, h1.trans hys⟩
    rw [← Go.Deep.add_add, hcell, hv]
end

/-- A list of terms that came in. -/
def Came (w : World) (a : Option Addr) (n cap : Nat) (l : List (Int × Int)) : Prop :=
  l.length = n ∧ n ≤ cap ∧ cap ≤ maxLen ∧ (a = none → n = 0 ∧ cap = 0) ∧ Lies w.heap.size w a l ∧ ∀ m ∈ l, (Lit.int .i64 m.1).wf = true ∧ (Lit.int .i64 m.2).wf = true

theorem list_of (n : Nat) (p : Nat → Int × Int → Prop) (h : ∀ i, i < n → ∃ m, p i m) : ∃ l : List (Int × Int), l.length = n ∧ ∀ i, i < n → p i (l.getD i (0, 0)) := by
  induction n with
  | zero => exact ⟨[], rfl, fun i hi => absurd hi (Nat.not_lt_zero i)⟩
  | succ n ih =>
    obtain ⟨l, hl, hp⟩ := ih (fun i hi => h i (by omega))
    obtain ⟨m, hm⟩ := h n (by omega)
    refine ⟨l ++ [m], by simp [hl], fun i hi => ?_⟩
    by_cases e : i = n
    · subst e
      rw [List.getD_eq_getElem?_getD, List.getElem?_append_right (by omega), hl]
      simpa using hm
    · have := hp i (by omega)
      rw [List.getD_eq_getElem?_getD] at this ⊢
      rwa [List.getElem?_append_left (by omega)]

section
variable {H : Type} {enc : TypeId × Value → H} {w : World} {base : Nat} {spare : Nat → Bool} {held : Bool}
theorem open_monos {fuel : Nat} {v : Value} {x : DataW H × List MemPlace} (h : DataW.trod enc Tryd.prog w base spare held fuel 22 [v] = some x) : ∃ a n cap l, v = .slice a n cap ∧ Came w a n cap l := by
  rcases open_slice_fields Tryd.underlying22 Tryd.underlying57 (by kernel_rfl) (by kernel_rfl) h with ⟨hcs, _⟩ | ⟨a, len, cap, m, hcs, hl, hm, hlm, hi⟩
  · injection hcs with hv
    exact ⟨none, 0, 0, [], hv, rfl, Nat.le_refl _, Nat.zero_le _, fun _ => ⟨rfl, rfl⟩, fun i hi => absurd hi (Nat.not_lt_zero i), fun m hm => by cases hm⟩
  · injection hcs with hv
    have hp : ∀ i, i < len → ∃ m : Int × Int, w.cell? (a.add (i * 2)) = some (.int .i64 m.1) ∧ w.cell? (a.add (i * 2 + 1)) = some (.int .i64 m.2) ∧ (Lit.int .i64 m.1).wf = true ∧ (Lit.int .i64 m.2).wf = true := by
      intro i hil
      obtain ⟨n, hf⟩ := hi i (by omega)
      obtain ⟨v0, y0, c0, t0⟩ := hf 0 _ rfl
      obtain ⟨v1, y1, c1, t1⟩ := hf 1 _ rfl
      obtain ⟨x0, e0, _, w0⟩ := DataW.trod_int Tryd.underlying3 t0
      obtain ⟨x1, e1, _, w1⟩ := DataW.trod_int Tryd.underlying3 t1
      injection e0 with e0
      injection e1 with e1
      subst e0 e1
      exact ⟨(x0, x1), c0, c1, w0, w1⟩
    obtain ⟨l, hll, hlp⟩ := list_of len _ hp
    refine ⟨some a, len, cap, l, hv, hll, hl, hm, (fun e => by cases e), fun i hi => ?_, fun m hm => ?_⟩
    · obtain ⟨c0, c1, _, _⟩ := hlp i (by omega)
      obtain ⟨b, off, spot⟩ := a
      have hs : spot = none := by
        have := World.cell?_spot c1
        by_cases h0 : spot = none
        · exact h0
        · have c00 := (hlp 0 (by omega)).1
          simpa [Addr.add] using World.cell?_spot c00
      subst hs
      refine ⟨b, off, rfl, ?_, ?_, ?_⟩
      · have := block_lt_of_cell c1
        simpa [Addr.add] using this
      · rw [Go.WideShapes.add_plain] at c0; exact c0
      · rw [Go.WideShapes.add_plain] at c1; exact c1
    · obtain ⟨i, hi, rfl⟩ := List.getElem_of_mem hm
      have := hlp i (by omega)
      rw [List.getD_eq_getElem?_getD, List.getElem?_eq_getElem hi] at this
      exact this.2.2

set_option maxRecDepth 100000 in
/-- Numbers that came in. -/
theorem open_nums {r : Reach} {b0 : Nat} {v : Value} {d : DataW H} {p : List MemPlace} (hv : Value.okWide Tryd.prog w r b0 45 v) (h : DataW.Trod enc Tryd.prog w base spare held 45 v d p) :
    ∃ (a : Option Addr) (n cap : Nat) (zs : List Int), v = .slice a n cap ∧ zs.length = n ∧ n ≤ cap ∧ cap ≤ maxLen ∧ (∀ i, i < zs.length → ∃ b off, a = some ⟨b, off, none⟩ ∧ b < w.heap.size ∧ w.cell? ⟨b, off + i, none⟩ = some (.int .i64 (zs.getD i 0))) ∧ ∀ m ∈ zs, (Lit.int .i64 m).wf = true := by
  obtain ⟨a, len, cap, rfl⟩ := okWide_slice Tryd.underlying45 hv
  obtain ⟨fuel, hf⟩ := h
  rcases open_ints Tryd.underlying45 Tryd.underlying3 (by kernel_rfl) hf with ⟨hcs, _⟩ | ⟨x, l, c, zs, hcs, _, hl, hm, hz, _, hcell, hwz⟩
  · simp [Value.cells] at hcs
    obtain ⟨rfl, rfl, rfl⟩ := hcs
    exact ⟨none, 0, 0, [], rfl, rfl, Nat.le_refl _, Nat.zero_le _, fun i hi => absurd hi (Nat.not_lt_zero i), fun m hm => by cases hm⟩
  · simp [Value.cells] at hcs
    obtain ⟨rfl, rfl, rfl⟩ := hcs
    have hz' : len ≤ zs.length := by rw [hz]; split <;> omega
    clear hz
    refine ⟨some x, len, cap, zs.take len, rfl, by simp; omega, hl, hm, fun i hi => ?_, fun m hm => hwz m (List.mem_of_mem_take hm)⟩
    have hi' : i < len := by rw [List.length_take] at hi; omega
    obtain ⟨b, off, rfl, hc⟩ := ints_at hcell (by omega)
    have h1 := hc i (by omega)
    refine ⟨b, off, rfl, by simpa using block_lt_of_cell h1, ?_⟩
    rw [h1]
    simp [List.getD_eq_getElem?_getD, hi']
set_option maxRecDepth 100000 in
/-- A form that came in. -/
theorem open_lin {r : Reach} {b0 : Nat} {v : Value} {d : DataW H} {p : List MemPlace} (hv : Value.okWide Tryd.prog w r b0 24 v) (h : DataW.Trod enc Tryd.prog w base spare held 24 v d p) :
    ∃ c a n cap l, v = .agg #[.int .i64 c, .slice a n cap] ∧ Came w a n cap l ∧ (Lit.int .i64 c).wf = true := by
  obtain ⟨v0, v1, y0, y1, n, rfl, _, _, h0, h1⟩ := Joins.open_agg2 Tryd.underlying24 (by kernel_rfl) (by kernel_rfl) hv h
  obtain ⟨x0, e0, _, w0⟩ := DataW.trod_int Tryd.underlying3 h0
  injection e0 with e0
  subst e0
  obtain ⟨a, n, cap, l, rfl, hc⟩ := open_monos h1
  exact ⟨x0, a, n, cap, l, rfl, hc, w0⟩
end
end Go.Proofs.YtelndcmfddbgiaaDoor

namespace Go.Proofs.YtelndcmfddbgiaaDoor
open Go.ChangeShapes Go.WideShapes Go.RowKit Go.Deep

theorem FLies.succ {B : Nat} {w : World} : ∀ {n : Nat} {f : FT} {cs : List Value}, FLies B w n f cs → FLies B w (n + 1) f cs
  | 0, _, _, h => h.elim
  | n + 1, f, cs, ⟨ta, tcap, ka, kcap, h1, h2, h3, h4, h5⟩ => ⟨ta, tcap, ka, kcap, h1, h2, h3, h4, fun i hi => by
    obtain ⟨b, off, c0, c1, c2, c3, e, hlt, g0, g1, g2, g3, hf⟩ := h5 i hi
    exact ⟨b, off, c0, c1, c2, c3, e, hlt, g0, g1, g2, g3, hf.succ⟩⟩

theorem list_of_any {α : Type} [Inhabited α] (n : Nat) (p : Nat → α → Prop) (h : ∀ i, i < n → ∃ m, p i m) : ∃ l : List α, l.length = n ∧ ∀ i, i < n → p i (l.getD i default) := by
  induction n with
  | zero => exact ⟨[], rfl, fun i hi => absurd hi (Nat.not_lt_zero i)⟩
  | succ n ih =>
    obtain ⟨l, hl, hp⟩ := ih (fun i hi => h i (by omega))
    obtain ⟨m, hm⟩ := h n (by omega)
    refine ⟨l ++ [m], by simp [hl], fun i hi => ?_⟩
    by_cases e : i = n
    · subst e
      rw [List.getD_eq_getElem?_getD, List.getElem?_append_right (by omega), hl]
      simpa using hm
    · have := hp i (by omega)
      rw [List.getD_eq_getElem?_getD] at this ⊢
      rwa [List.getElem?_append_left (by omega)]

theorem list4 {α : Type} {l : List α} (h : l.length = 4) : ∃ a b c d, l = [a, b, c, d] := by
  match l, h with
  | [a, b, c, d], _ => exact ⟨a, b, c, d, rfl⟩

section
variable {H : Type} {enc : TypeId × Value → H} {w : World} {base : Nat} {spare : Nat → Bool} {held : Bool}
set_option maxRecDepth 100000 in
theorem open_form_cells : ∀ (N : Nat) {fuel : Nat} {cs : List Value} {x : DataW H × List MemPlace}, fuel ≤ N → DataW.trod enc Tryd.prog w base spare held fuel 27 cs = some x → ∃ f, FLies w.heap.size w N f cs
  | 0, fuel, cs, x, hN, h => by
    obtain ⟨xs, n, rfl, _⟩ := DataW.trod_struct Tryd.underlying27 h
    omega
  | N + 1, fuel, cs, x, hN, h => by
    have IH := @open_form_cells N
    obtain ⟨xs, n, rfl, _, hl, hlen, hf⟩ := DataW.trod_struct Tryd.underlying27 h
    obtain ⟨c0, c1, c2, c3, rfl⟩ := list4 (hl.trans (by kernel_rfl))
    have e1 : Tryd.prog.cellsOf 3 = 1 := by kernel_rfl
    have e2 : Tryd.prog.cellsOf 24 = 2 := by kernel_rfl
    have e3 : Tryd.prog.cellsOf 25 = 1 := by kernel_rfl
    have e4 : Tryd.prog.cellsOf 27 = 4 := by kernel_rfl
    have e5 : Tryd.prog.cellsOf 22 = 1 := by kernel_rfl
    have hx : ∀ i, i < 3 → ∃ y, xs[i]? = some y := fun i hi => ⟨_, List.getElem?_eq_getElem (by rw [hlen]; exact hi)⟩
    have h0 : DataW.trod enc Tryd.prog w base spare held n 3 [c0] = xs[0]? := by
      have : DataW.trod enc Tryd.prog w base spare held n 3 ((([c0, c1, c2, c3] : List Value).drop 0).take (Tryd.prog.cellsOf 3)) = xs[0]? := hf 0 _ rfl
      rw [e1] at this
      exact this
    have h1 : DataW.trod enc Tryd.prog w base spare held n 24 [c1, c2] = xs[1]? := by
      have : DataW.trod enc Tryd.prog w base spare held n 24 ((([c0, c1, c2, c3] : List Value).drop 1).take (Tryd.prog.cellsOf 24)) = xs[1]? := hf 1 _ rfl
      rw [e2] at this
      exact this
    have h2 : DataW.trod enc Tryd.prog w base spare held n 25 [c3] = xs[2]? := by
      have : DataW.trod enc Tryd.prog w base spare held n 25 ((([c0, c1, c2, c3] : List Value).drop 3).take (Tryd.prog.cellsOf 25)) = xs[2]? := hf 2 _ rfl
      rw [e3] at this
      exact this
    obtain ⟨y0, z0⟩ := hx 0 (by omega)
    obtain ⟨y1, z1⟩ := hx 1 (by omega)
    obtain ⟨y2, z2⟩ := hx 2 (by omega)
    rw [z0] at h0
    rw [z1] at h1
    rw [z2] at h2
    clear hf hx z0 z1 z2
    obtain ⟨k, ek, _, _⟩ := DataW.trod_int Tryd.underlying3 h0
    obtain ⟨xs', n', _, _, _, hlen', hf'⟩ := DataW.trod_struct Tryd.underlying24 h1
    have hx' : ∀ i, i < 2 → ∃ y, xs'[i]? = some y := fun i hi => ⟨_, List.getElem?_eq_getElem (by rw [hlen']; exact hi)⟩
    have g0 : DataW.trod enc Tryd.prog w base spare held n' 3 [c1] = xs'[0]? := by
      have : DataW.trod enc Tryd.prog w base spare held n' 3 ((([c1, c2] : List Value).drop 0).take (Tryd.prog.cellsOf 3)) = xs'[0]? := hf' 0 _ rfl
      rw [e1] at this
      exact this
    have g1 : DataW.trod enc Tryd.prog w base spare held n' 22 [c2] = xs'[1]? := by
      have : DataW.trod enc Tryd.prog w base spare held n' 22 ((([c1, c2] : List Value).drop 1).take (Tryd.prog.cellsOf 22)) = xs'[1]? := hf' 1 _ rfl
      rw [e5] at this
      exact this
    obtain ⟨y3, z3⟩ := hx' 0 (by omega)
    obtain ⟨y4, z4⟩ := hx' 1 (by omega)
    rw [z3] at g0
    rw [z4] at g1
    obtain ⟨c, ec, _, _⟩ := DataW.trod_int Tryd.underlying3 g0
    obtain ⟨ta, tn, tcap, l, et, htl, htn, htc, _, hlies, _⟩ := open_monos g1
    injection ek with ek
    injection ec with ec
    subst ek ec et
    have htm : tn ≤ 9223372036854775807 := by unfold maxLen at htc; omega
    subst htl
    clear hf' hx' z3 z4 g0 g1 h0 h1
    rcases DataW.trod_slice Tryd.underlying25 h2 with ⟨h3, _⟩ | ⟨a, len, cap, elems, rest, n2, hn2, h3, _, _, hlc, hcm, hel, hat, _, _⟩
    · injection h3 with h3
      subst h3
      exact ⟨.mk k c l [], ta, tcap, none, 0, rfl, hlies, htm, by simp [FT.ks], fun i hi => absurd hi (by simp [FT.ks])⟩
    · injection h3 with h3
      subst h3
      have hp : ∀ i, i < len → ∃ g : FT, ∃ b off c0 c1 c2 c3, a = ⟨b, off, none⟩ ∧ b < w.heap.size ∧ w.cell? ⟨b, off + i * 4, none⟩ = some c0 ∧ w.cell? ⟨b, off + i * 4 + 1, none⟩ = some c1 ∧ w.cell? ⟨b, off + i * 4 + 2, none⟩ = some c2 ∧ w.cell? ⟨b, off + i * 4 + 3, none⟩ = some c3 ∧ FLies w.heap.size w N g [c0, c1, c2, c3] := by
        intro i hi
        have hc := hat i hi
        rw [List.getElem?_eq_getElem (by omega)] at hc
        obtain ⟨cs', k1, k2⟩ := Option.bind_eq_some_iff.1 hc
        obtain ⟨g, hg⟩ := IH (by omega) k2
        obtain ⟨_, hcl, hat'⟩ := World.cells?_some k1
        rw [e4] at hcl
        obtain ⟨d0, d1, d2, d3, rfl⟩ := list4 hcl
        have q0 := hat' 0 (by rw [e4]; omega)
        have q1 := hat' 1 (by rw [e4]; omega)
        have q2 := hat' 2 (by rw [e4]; omega)
        have q3 := hat' 3 (by rw [e4]; omega)
        rw [Go.Deep.add_add, e4] at q0 q1 q2 q3
        obtain ⟨b, off, spot⟩ := a
        have hs : spot = none := by
          have hc0 := hat 0 (by omega)
          rw [List.getElem?_eq_getElem (by omega)] at hc0
          obtain ⟨cs0, u1, _⟩ := Option.bind_eq_some_iff.1 hc0
          obtain ⟨_, ucl, uat⟩ := World.cells?_some u1
          rw [e4] at ucl
          obtain ⟨_, _, _, _, rfl⟩ := list4 ucl
          have u0 := uat 0 (by rw [e4]; omega)
          rw [Go.Deep.add_add, e4] at u0
          simpa [Addr.add] using World.cell?_spot u0
        subst hs
        rw [Go.WideShapes.add_plain] at q0 q1 q2 q3
        exact ⟨g, b, off, d0, d1, d2, d3, rfl, by simpa using block_lt_of_cell q0, q0, q1, q2, q3, hg⟩
      obtain ⟨ks, hks, hkp⟩ := list_of_any len _ hp
      subst hks
      refine ⟨.mk k c l ks, ta, tcap, some a, cap, rfl, hlies, htm, by unfold maxLen at hcm; simp only [FT.ks]; omega, fun i hi => ?_⟩
      obtain ⟨b, off, d0, d1, d2, d3, ha, r⟩ := hkp i hi
      exact ⟨b, off, d0, d1, d2, d3, by rw [ha], r⟩

set_option maxRecDepth 100000 in
/-- A formula that came in. -/
theorem open_form {r : Reach} {b0 : Nat} {v : Value} {d : DataW H} {p : List MemPlace} (hv : Value.okWide Tryd.prog w r b0 27 v) (h : DataW.Trod enc Tryd.prog w base spare held 27 v d p) :
    ∃ n f cs, v = .agg cs.toArray ∧ FLies w.heap.size w n f cs := by
  obtain ⟨cs, rfl, hsz⟩ := okWide_struct Tryd.underlying27 hv
  obtain ⟨fuel, hf⟩ := h
  obtain ⟨f, hl⟩ := open_form_cells fuel (Nat.le_refl _) hf
  refine ⟨fuel, f, cs.toList, rfl, ?_⟩
  simpa [Value.cells] using hl
end
end Go.Proofs.YtelndcmfddbgiaaDoor

set_option linter.unusedVariables false
set_option linter.unusedSimpArgs false
namespace Go.Proofs.YtelndcmfddbgiaaDoor
set_option maxRecDepth 100000
open Go.ChangeShapes Go.WideShapes Go.ChangeAt Go.RowKit
theorem Tryd.own : ownKnob Tryd.prog.godebug = none := by kernel_rfl
theorem Tryd.laidOut : laidOutB Tryd.prog = true := by kernel_rfl
/-! The listed tables. -/
def laidL : List (String × DataW Unit) := [("math/bits.deBruijn32tab", Rows.laid_math_bits_deBruijn32tab), ("math/bits.deBruijn64tab", Rows.laid_math_bits_deBruijn64tab), ("internal/strconv.uint64pow10", Rows.laid_internal_strconv_uint64pow10)]
theorem Tryd.gTab : Tryd.prog.globalNamed "internal/strconv.uint64pow10" = some 0 := by kernel_rfl
theorem Tryd.gTabType : (Tryd.prog.globals[0]?).map (·.type) = some 118 := by kernel_rfl
theorem Tryd.cellsTab : Tryd.prog.cellsOf 118 = 20 := by kernel_rfl
theorem Tryd.cellsU64 : Tryd.prog.cellsOf 103 = 1 := by kernel_rfl
theorem laid_tail {P : Program} {x : String × DataW Unit} {l : List (String × DataW Unit)} {w : World} (h : laidMet P (x :: l) w) : laidMet P l w := by
  obtain ⟨ps, h1, h2, h3⟩ := h
  obtain ⟨g, t, cs, fuel, p, q, _, _, _, _, h4, rfl⟩ := h1
  exact ⟨q, h4, (List.nodup_append.1 h2).2.1, fun b off hb => h3 b off (List.mem_append.2 (.inr hb))⟩
theorem tens_of_laid {W : World} (h : laidMetH Tryd.prog laidL W) : Tens W.heap.size W := by
  have h' : laidMet Tryd.prog laidL W := h
  exact Lib.tabBelow_of_tabIs (Lib.tabIs_of_head (rest := []) Tryd.gTab Tryd.gTabType Tryd.underlying118 Tryd.underlying103 Tryd.cellsU64 Tryd.cellsTab (laid_tail (laid_tail h')))
noncomputable def laidWorld (os : Os) : World :=
  let w0 := World.holding Tryd.prog os ⟨#[], #[], []⟩
  { w0 with heap := ((w0.heap.modify 1 fun
      | .cells _ t frozen => .cells #[.int .u8 0, .int .u8 1, .int .u8 28, .int .u8 2, .int .u8 29, .int .u8 14, .int .u8 24, .int .u8 3, .int .u8 30, .int .u8 22, .int .u8 20, .int .u8 15, .int .u8 25, .int .u8 17, .int .u8 4, .int .u8 8, .int .u8 31, .int .u8 27, .int .u8 13, .int .u8 23, .int .u8 21, .int .u8 19, .int .u8 16, .int .u8 7, .int .u8 26, .int .u8 12, .int .u8 18, .int .u8 6, .int .u8 11, .int .u8 5, .int .u8 10, .int .u8 9] t frozen
      | o => o).modify 2 fun
      | .cells _ t frozen => .cells #[.int .u8 0, .int .u8 1, .int .u8 56, .int .u8 2, .int .u8 57, .int .u8 49, .int .u8 28, .int .u8 3, .int .u8 61, .int .u8 58, .int .u8 42, .int .u8 50, .int .u8 38, .int .u8 29, .int .u8 17, .int .u8 4, .int .u8 62, .int .u8 47, .int .u8 59, .int .u8 36, .int .u8 45, .int .u8 43, .int .u8 51, .int .u8 22, .int .u8 53, .int .u8 39, .int .u8 33, .int .u8 30, .int .u8 24, .int .u8 18, .int .u8 12, .int .u8 5, .int .u8 63, .int .u8 55, .int .u8 48, .int .u8 27, .int .u8 60, .int .u8 41, .int .u8 37, .int .u8 16, .int .u8 46, .int .u8 35, .int .u8 44, .int .u8 21, .int .u8 52, .int .u8 32, .int .u8 23, .int .u8 11, .int .u8 54, .int .u8 26, .int .u8 40, .int .u8 15, .int .u8 34, .int .u8 20, .int .u8 31, .int .u8 10, .int .u8 25, .int .u8 14, .int .u8 19, .int .u8 9, .int .u8 13, .int .u8 8, .int .u8 7, .int .u8 6] t frozen
      | o => o).modify 0 fun
      | .cells _ t frozen => .cells #[.int .u64 1, .int .u64 10, .int .u64 100, .int .u64 1000, .int .u64 10000, .int .u64 100000, .int .u64 1000000, .int .u64 10000000, .int .u64 100000000, .int .u64 1000000000, .int .u64 10000000000, .int .u64 100000000000, .int .u64 1000000000000, .int .u64 10000000000000, .int .u64 100000000000000, .int .u64 1000000000000000, .int .u64 10000000000000000, .int .u64 100000000000000000, .int .u64 1000000000000000000, .int .u64 10000000000000000000] t frozen
      | o => o }
theorem laidWorld_met (os : Os) (args : Array Value) : laidMetH Tryd.prog laidL ((laidWorld os).forCall (fun _ _ => 0) ⟨#[], args, []⟩).memory :=
  (laidMet_of_run' 8 (by kernel_rfl) (by kernel_rfl) : laidMet Tryd.prog laidL _)
end Go.Proofs.YtelndcmfddbgiaaDoor
