/- How a formula that came in lies in memory. What the frames of the tied cards share: the listed tables, laid. The frame of CnfMakes. CnfLong: what it stands on. -/
import Derived.Test.YtelndcmfddbgiaaDoorCr06
import Derived.Test.YtelndcmfddbgiaaDoorCr22
import Derived.Test.YtelndcmfddbgiaaDoorCr23
import Derived.Test.YtelndcmfddbgiaaDoorRows
import Derived.ChangeSame
import Derived.ChangeVars
import Derived.JoinedOf
import Derived.RowKit
import Derived.RowKitTokens
import Derived.LaidLaws
import Derived.LaidHandle
import Derived.Stop.Joined
import Derived.BigQuiet
import Derived.Lib.LaidTab
import Derived.Lib.AppendIntMem
import Derived.OwnWalk
set_option linter.unusedVariables false
set_option linter.unusedSimpArgs false
namespace Go.Proofs.YtelndcmfddbgiaaDoor
open Go.ChangeShapes Go.WideShapes Go.RowKit Go.Deep

theorem FLies.succ {B : Nat} {w : World} : ∀ {n : Nat} {f : FT} {cs : List Value}, FLies B w n f cs → FLies B w (n + 1) f cs
  | 0, _, _, h => h.elim
  | n + 1, f, cs, ⟨ta, tcap, ka, kcap, h1, h2, h3, h4, h5⟩ => ⟨ta, tcap, ka, kcap, h1, h2, h3, h4, fun i hi => by
    obtain ⟨b, off, c0, c1, c2, c3, e, hlt, g0, g1, g2, g3, hf⟩ := h5 i hi
    exact ⟨b, off, c0, c1, c2, c3, e, hlt, g0, g1, g2, g3, hf.succ⟩⟩

theorem list_of_any {α : Type} [Inhabited α] (n : Nat) (p : Nat → α → Prop) (h : ∀ i, i < n → ∃ m, p i m) : ∃ l : List α, l.length = n ∧ ∀ i, i < n → p i (l.getD i default) := by
  induction n with
  | zero => exact ⟨[], rfl, fun i hi => absurd hi (Nat.not_lt_zero i)⟩
  | succ n ih =>
    obtain ⟨l, hl, hp⟩ := ih (fun i hi => h i (by omega))
    obtain ⟨m, hm⟩ := h n (by omega)
    refine ⟨l ++ [m], by simp [hl], fun i hi => ?_⟩
    by_cases e : i = n
    · subst e
      rw [List.getD_eq_getElem?_getD, List.getElem?_append_right (by omega), hl]
      simpa using hm
    · have := hp i (by omega)
      rw [List.getD_eq_getElem?_getD] at this ⊢
      rwa [List.getElem?_append_left (by omega)]

theorem list4 {α : Type} {l : List α} (h : l.length = 4) : ∃ a b c d, l = [a, b, c, d] := by
  match l, h with
  | [a, b, c, d], _ => exact ⟨a, b, c, d, rfl⟩

section
variable {H : Type} {enc : TypeId × Value → H} {w : World} {base : Nat} {spare : Nat → Bool} {held : Bool}
set_option maxRecDepth 100000 in
theorem open_form_cells : ∀ (N : Nat) {fuel : Nat} {cs : List Value} {x : DataW H × List MemPlace}, fuel ≤ N → DataW.trod enc Tryd.prog w base spare held fuel 27 cs = some x → ∃ f, FLies w.heap.size w N f cs
  | 0, fuel, cs, x, hN, h => by
    obtain ⟨xs, n, rfl, _⟩ := DataW.trod_struct Tryd.underlying27 h
    omega
  | N + 1, fuel, cs, x, hN, h => by
    have IH := @open_form_cells N
    obtain ⟨xs, n, rfl, _, hl, hlen, hf⟩ := DataW.trod_struct Tryd.underlying27 h
    obtain ⟨c0, c1, c2, c3, rfl⟩ := list4 (hl.trans (by kernel_rfl))
    have e1 : Tryd.prog.cellsOf 3 = 1 := by kernel_rfl
    have e2 : Tryd.prog.cellsOf 24 = 2 := by kernel_rfl
    have e3 : Tryd.prog.cellsOf 25 = 1 := by kernel_rfl
    have e4 : Tryd.prog.cellsOf 27 = 4 := by kernel_rfl
    have e5 : Tryd.prog.cellsOf 22 = 1 := by kernel_rfl
    have hx : ∀ i, i < 3 → ∃ y, xs[i]? = some y := fun i hi => ⟨_, List.getElem?_eq_getElem (by rw [hlen]; exact hi)⟩
    have h0 : DataW.trod enc Tryd.prog w base spare held n 3 [c0] = xs[0]? := by
      have : DataW.trod enc Tryd.prog w base spare held n 3 ((([c0, c1, c2, c3] : List Value).drop 0).take (Tryd.prog.cellsOf 3)) = xs[0]? := hf 0 _ rfl
      rw [e1] at this
      exact this
    have h1 : DataW.trod enc Tryd.prog w base spare held n 24 [c1, c2] = xs[1]? := by
      have : DataW.trod enc Tryd.prog w base spare held n 24 ((([c0, c1, c2, c3] : List Value).drop 1).take (Tryd.prog.cellsOf 24)) = xs[1]? := hf 1 _ rfl
      rw [e2] at this
      exact this
    have h2 : DataW.trod enc Tryd.prog w base spare held n 25 [c3] = xs[2]? := by
      have : DataW.trod enc Tryd.prog w base spare held n 25 ((([c0, c1, c2, c3] : List Value).drop 3).take (Tryd.prog.cellsOf 25)) = xs[2]? := hf 2 _ rfl
      rw [e3] at this
      exact this
    obtain ⟨y0, z0⟩ := hx 0 (by omega)
    obtain ⟨y1, z1⟩ := hx 1 (by omega)
    obtain ⟨y2, z2⟩ := hx 2 (by omega)
    rw [z0] at h0
    rw [z1] at h1
    rw [z2] at h2
    clear hf hx z0 z1 z2
    obtain ⟨k, ek, _, _⟩ := DataW.trod_int Tryd.underlying3 h0
    obtain ⟨xs', n', _, _, _, hlen', hf'⟩ := DataW.trod_struct Tryd.underlying24 h1
    have hx' : ∀ i, i < 2 → ∃ y, xs'[i]? = some y := fun i hi => ⟨_, List.getElem?_eq_getElem (by rw [hlen']; exact hi)⟩
    have g0 : DataW.trod enc Tryd.prog w base spare held n' 3 [c1] = xs'[0]? := by
      have : DataW.trod enc Tryd.prog w base spare held n' 3 ((([c1, c2] : List Value).drop 0).take (Tryd.prog.cellsOf 3)) = xs'[0]? := hf' 0 _ rfl
      rw [e1] at this
      exact this
    have g1 : DataW.trod enc Tryd.prog w base spare held n' 22 [c2] = xs'[1]? := by
      have : DataW.trod enc Tryd.prog w base spare held n' 22 ((([c1, c2] : List Value).drop 1).take (Tryd.prog.cellsOf 22)) = xs'[1]? := hf' 1 _ rfl
      rw [e5] at this
      exact this
    obtain ⟨y3, z3⟩ := hx' 0 (by omega)
    obtain ⟨y4, z4⟩ := hx' 1 (by omega)
    rw [z3] at g0
    rw [z4] at g1
    obtain ⟨c, ec, _, _⟩ := DataW.trod_int Tryd.underlying3 g0
    obtain ⟨ta, tn, tcap, l, et, htl, htn, htc, _, hlies, _⟩ := open_monos g1
    injection ek with ek
    injection ec with ec
    subst ek ec et
    have htm : tn ≤ 9223372036854775807 := by unfold maxLen at htc; omega
    subst htl
    clear hf' hx' z3 z4 g0 g1 h0 h1
    rcases DataW.trod_slice Tryd.underlying25 h2 with ⟨h3, _⟩ | ⟨a, len, cap, elems, rest, n2, hn2, h3, _, _, hlc, hcm, hel, hat, _, _⟩
    · injection h3 with h3
      subst h3
      exact ⟨.mk k c l [], ta, tcap, none, 0, rfl, hlies, htm, by simp [FT.ks], fun i hi => absurd hi (by simp [FT.ks])⟩
    · injection h3 with h3
      subst h3
      have hp : ∀ i, i < len → ∃ g : FT, ∃ b off c0 c1 c2 c3, a = ⟨b, off, none⟩ ∧ b < w.heap.size ∧ w.cell? ⟨b, off + i * 4, none⟩ = some c0 ∧ w.cell? ⟨b, off + i * 4 + 1, none⟩ = some c1 ∧ w.cell? ⟨b, off + i * 4 + 2, none⟩ = some c2 ∧ w.cell? ⟨b, off + i * 4 + 3, none⟩ = some c3 ∧ FLies w.heap.size w N g [c0, c1, c2, c3] := by
        intro i hi
        have hc := hat i hi
        rw [List.getElem?_eq_getElem (by omega)] at hc
        obtain ⟨cs', k1, k2⟩ := Option.bind_eq_some_iff.1 hc
        obtain ⟨g, hg⟩ := IH (by omega) k2
        obtain ⟨_, hcl, hat'⟩ := World.cells?_some k1
        rw [e4] at hcl
        obtain ⟨d0, d1, d2, d3, rfl⟩ := list4 hcl
        have q0 := hat' 0 (by rw [e4]; omega)
        have q1 := hat' 1 (by rw [e4]; omega)
        have q2 := hat' 2 (by rw [e4]; omega)
        have q3 := hat' 3 (by rw [e4]; omega)
        rw [Go.Deep.add_add, e4] at q0 q1 q2 q3
        obtain ⟨b, off, spot⟩ := a
        have hs : spot = none := by
          have hc0 := hat 0 (by omega)
          rw [List.getElem?_eq_getElem (by omega)] at hc0
          obtain ⟨cs0, u1, _⟩ := Option.bind_eq_some_iff.1 hc0
          obtain ⟨_, ucl, uat⟩ := World.cells?_some u1
          rw [e4] at ucl
          obtain ⟨_, _, _, _, rfl⟩ := list4 ucl
          have u0 := uat 0 (by rw [e4]; omega)
          rw [Go.Deep.add_add, e4] at u0
          simpa [Addr.add] using World.cell?_spot u0
        subst hs
        rw [Go.WideShapes.add_plain] at q0 q1 q2 q3
        exact ⟨g, b, off, d0, d1, d2, d3, rfl, by simpa using block_lt_of_cell q0, q0, q1, q2, q3, hg⟩
      obtain ⟨ks, hks, hkp⟩ := list_of_any len _ hp
      subst hks
      refine ⟨.mk k c l ks, ta, tcap, some a, cap, rfl, hlies, htm, by unfold maxLen at hcm; simp only [FT.ks]; omega, fun i hi => ?_⟩
      obtain ⟨b, off, d0, d1, d2, d3, ha, r⟩ := hkp i hi
      exact ⟨b, off, d0, d1, d2, d3, by rw [ha], r⟩

set_option maxRecDepth 100000 in
/-- A formula that came in. -/
theorem open_form {r : Reach} {b0 : Nat} {v : Value} {d : DataW H} {p : List MemPlace} (hv : Value.okWide Tryd.prog w r b0 27 v) (h : DataW.Trod enc Tryd.prog w base spare held 27 v d p) :
    ∃ n f cs, v = .agg cs.toArray ∧ FLies w.heap.size w n f cs := by
  obtain ⟨cs, rfl, hsz⟩ := okWide_struct Tryd.underlying27 hv
  obtain ⟨fuel, hf⟩ := h
  obtain ⟨f, hl⟩ := open_form_cells fuel (Nat.le_refl _) hf
  refine ⟨fuel, f, cs.toList, rfl, ?_⟩
  simpa [Value.cells] using hl
end
end Go.Proofs.YtelndcmfddbgiaaDoor

set_option linter.unusedVariables false
set_option linter.unusedSimpArgs false
namespace Go.Proofs.YtelndcmfddbgiaaDoor
set_option maxRecDepth 100000
open Go.ChangeShapes Go.WideShapes Go.ChangeAt Go.RowKit
theorem Tryd.own : ownKnob Tryd.prog.godebug = none := by kernel_rfl
theorem Tryd.laidOut : laidOutB Tryd.prog = true := by kernel_rfl
/-! The listed tables. -/
def laidL : List (String × DataW Unit) := [("math/bits.deBruijn32tab", Rows.laid_math_bits_deBruijn32tab), ("math/bits.deBruijn64tab", Rows.laid_math_bits_deBruijn64tab), ("internal/strconv.uint64pow10", Rows.laid_internal_strconv_uint64pow10)]
theorem Tryd.gTab : Tryd.prog.globalNamed "internal/strconv.uint64pow10" = some 0 := by kernel_rfl
theorem Tryd.gTabType : (Tryd.prog.globals[0]?).map (·.type) = some 118 := by kernel_rfl
theorem Tryd.cellsTab : Tryd.prog.cellsOf 118 = 20 := by kernel_rfl
theorem Tryd.cellsU64 : Tryd.prog.cellsOf 103 = 1 := by kernel_rfl
theorem laid_tail {P : Program} {x : String × DataW Unit} {l : List (String × DataW Unit)} {w : World} (h : laidMet P (x :: l) w) : laidMet P l w := by
  obtain ⟨ps, h1, h2, h3⟩ := h
  obtain ⟨g, t, cs, fuel, p, q, _, _, _, _, h4, rfl⟩ := h1
  exact ⟨q, h4, (List.nodup_append.1 h2).2.1, fun b off hb => h3 b off (List.mem_append.2 (.inr hb))⟩
theorem tens_of_laid {W : World} (h : laidMetH Tryd.prog laidL W) : Tens W.heap.size W := by
  have h' : laidMet Tryd.prog laidL W := h
  exact Lib.tabBelow_of_tabIs (Lib.tabIs_of_head (rest := []) Tryd.gTab Tryd.gTabType Tryd.underlying118 Tryd.underlying103 Tryd.cellsU64 Tryd.cellsTab (laid_tail (laid_tail h')))
noncomputable def laidWorld (os : Os) : World :=
  let w0 := World.holding Tryd.prog os ⟨#[], #[], []⟩
  { w0 with heap := ((w0.heap.modify 1 fun
      | .cells _ t frozen => .cells #[.int .u8 0, .int .u8 1, .int .u8 28, .int .u8 2, .int .u8 29, .int .u8 14, .int .u8 24, .int .u8 3, .int .u8 30, .int .u8 22, .int .u8 20, .int .u8 15, .int .u8 25, .int .u8 17, .int .u8 4, .int .u8 8, .int .u8 31, .int .u8 27, .int .u8 13, .int .u8 23, .int .u8 21, .int .u8 19, .int .u8 16, .int .u8 7, .int .u8 26, .int .u8 12, .int .u8 18, .int .u8 6, .int .u8 11, .int .u8 5, .int .u8 10, .int .u8 9] t frozen
      | o => o).modify 2 fun
      | .cells _ t frozen => .cells #[.int .u8 0, .int .u8 1, .int .u8 56, .int .u8 2, .int .u8 57, .int .u8 49, .int .u8 28, .int .u8 3, .int .u8 61, .int .u8 58, .int .u8 42, .int .u8 50, .int .u8 38, .int .u8 29, .int .u8 17, .int .u8 4, .int .u8 62, .int .u8 47, .int .u8 59, .int .u8 36, .int .u8 45, .int .u8 43, .int .u8 51, .int .u8 22, .int .u8 53, .int .u8 39, .int .u8 33, .int .u8 30, .int .u8 24, .int .u8 18, .int .u8 12, .int .u8 5, .int .u8 63, .int .u8 55, .int .u8 48, .int .u8 27, .int .u8 60, .int .u8 41, .int .u8 37, .int .u8 16, .int .u8 46, .int .u8 35, .int .u8 44, .int .u8 21, .int .u8 52, .int .u8 32, .int .u8 23, .int .u8 11, .int .u8 54, .int .u8 26, .int .u8 40, .int .u8 15, .int .u8 34, .int .u8 20, .int .u8 31, .int .u8 10, .int .u8 25, .int .u8 14, .int .u8 19, .int .u8 9, .int .u8 13, .int .u8 8, .int .u8 7, .int .u8 6] t frozen
      | o => o).modify 0 fun
      | .cells _ t frozen => .cells #[.int .u64 1, .int .u64 10, .int .u64 100, .int .u64 1000, .int .u64 10000, .int .u64 100000, .int .u64 1000000, .int .u64 10000000, .int .u64 100000000, .int .u64 1000000000, .int .u64 10000000000, .int .u64 100000000000, .int .u64 1000000000000, .int .u64 10000000000000, .int .u64 100000000000000, .int .u64 1000000000000000, .int .u64 10000000000000000, .int .u64 100000000000000000, .int .u64 1000000000000000000, .int .u64 10000000000000000000] t frozen
      | o => o }
theorem laidWorld_met (os : Os) (args : Array Value) : laidMetH Tryd.prog laidL ((laidWorld os).forCall (fun _ _ => 0) ⟨#[], args, []⟩).memory :=
  (laidMet_of_run' 8 (by kernel_rfl) (by kernel_rfl) : laidMet Tryd.prog laidL _)
end Go.Proofs.YtelndcmfddbgiaaDoor

set_option linter.unusedVariables false
set_option linter.unusedSimpArgs false
namespace Go.Proofs.YtelndcmfddbgiaaDoor
open Go.ChangeShapes Go.WideShapes Go.ChangeAt Go.RowKit

set_option maxRecDepth 100000 in
theorem cnfMakes_lifted (hup : UpSaid9) (os : Os) (started : os.Started) (H : Type) (enc : TypeId × Value → H) :
    ReturnsInHanded {} Tryd.checked os 3 .any (fun w args => (Rows.cnfMakesSpec.pre enc Tryd.prog Tryd.f3 [] false w args ∧ laidMetH Tryd.prog laidL w) ∧ sizedMet enc Tryd.prog Tryd.f3 (OpenSpec.ofChange Rows.cnfMakesSpec) false w args)
      (Rows.cnfMakesSpec.post enc Tryd.prog Tryd.f3 false true false false) := by
  refine returnsInHanded_of_change_and (C := Tryd.checked) (X := fun w _ => laidMetH Tryd.prog laidL w) (fun _ _ _ hh h => h.of_heap hh) Tryd.own started (by kernel_rfl) Tryd.func3
    (ChangeSpec.witness_at (enc := enc) (C := Tryd.checked) (os := os) (X := fun w _ => laidMetH Tryd.prog laidL w) false (laidWorld os) #[.agg #[.int .i64 0, .int .i64 0, .slice none 0 0, .slice none 0 0]] 8 rfl (by kernel_rfl) (by kernel_rfl) (by kernel_rfl) (by kernel_rfl) (by kernel_rfl) (laidWorld_met os _)) ?_
  intro W base args ds gs before hval0 hW _ _ hL _
  have hval : ∀ (j : Nat) t v, Tryd.f3.params[j]? = some t → args[j]? = some v → Value.okWide Tryd.prog W .any base t v := hval0
  have hW' := hW
  obtain ⟨p, q, hA0, hV, rfl, hfz, hnd⟩ := hW
  have hA : DataW.TrodAll enc Tryd.prog W 0 (fun _ => true) true Tryd.f3.params.toList args.toList ds p := hA0
  rw [Tryd.params3] at hA hval
  obtain ⟨v0, vs0, d0, ds0, p0, q0, hargs, rfl, rfl, h0, r0⟩ := trodAll_cons hA
  obtain ⟨rfl, rfl, rfl⟩ := trodAll_nil r0
  obtain rfl : args = #[v0] := by cases args; simp_all
  obtain ⟨rfl, rfl⟩ := trodVars_none hV
  have k0 := h0
  have lt0 : ∀ x ∈ p0, x.block < W.heap.size := by obtain ⟨m, hm⟩ := k0; exact DataW.trod_lt m _ _ _ hm
  obtain ⟨n, f, cs, rfl, hf0⟩ := open_form (hval 0 27 v0 rfl rfl) h0
  have hg := tens_of_laid hL
  clear hA0 hval0
  refine (cnfMakes_any hup n f cs W hf0 hg).mono fun e W' ⟨he, bel⟩ => ?_
  subst he
  exact ⟨_, rfl, _, _, _, [], _, [], hW', trodAll_mk1 (shut_bool Tryd.underlying4 _), (trodAll_cons_mk (Below.trod Tryd.laidOut (by kernel_rfl) (of_decide_eq_true (by kernel_rfl)) k0 bel lt0) trodAll_mk0), rfl, bel.frame _, fun h => by cases h⟩

theorem cnfMakes_over (hup : UpSaid9) : Rows.CnfMakesSaid :=
  OpenClaim.holds_of_wide 3 Tryd.f3 rfl rfl rfl rfl rfl rfl rfl ⟨rfl, rfl, rfl, rfl, rfl⟩ rfl rfl rfl rfl rfl (by kernel_rfl) Tryd.func3 (by kernel_rfl)
    (of_decide_eq_true (by kernel_rfl)) (by unfold Func.isWrapper; first | (rw [if_pos (by decide +kernel)]; kernel_rfl) | (rw [if_neg (by decide +kernel)]; exact ⟨rfl, rfl⟩))
    (fun os started H enc _ => cnfMakes_lifted hup os started H enc)
end Go.Proofs.YtelndcmfddbgiaaDoor

set_option linter.unusedVariables false
set_option linter.unusedSimpArgs false
namespace Go.Proofs.YtelndcmfddbgiaaDoor
set_option maxRecDepth 100000
open Go.RowKit

theorem Tryd.infoForm : (Tryd.prog.info? 27).map (fun i => (i.zero, i.size, i.bytes)) = some (some (.agg #[.int .i64 0, .int .i64 0, .slice none 0 0, .slice none 0 0]), 4, 64) := by kernel_rfl
def leaf0 : FT := .mk 0 0 [] []
def wideG (n : Nat) : FT := .mk 6 0 [] (List.replicate n leaf0)
theorem wide_get {n i : Nat} (h : i < n) : (wideG n).ks.getD i default = leaf0 := by
  show (List.replicate n leaf0).getD i default = leaf0
  simp [List.getD_eq_getElem?_getD, h]
theorem dep_le : ∀ (n : Nat) (f : FT), dep n f ≤ n
  | 0, _ => Nat.le_refl _
  | n + 1, f => by
    by_cases h : n + 1 < dep (n + 1) f
    · obtain ⟨i, _, hi⟩ := dep_succ.1 h
      have := dep_le n (f.ks.getD i default)
      omega
    · omega
theorem wide_siz (n : Nat) : siz 2 (wideG n) = 1 + n := by
  show 1 + ((List.replicate n leaf0).map (siz 1)).sum = _
  rw [List.map_replicate, show siz 1 leaf0 = 1 from rfl]
  simp
theorem wide_len (n : Nat) : (wideG n).ks.length = n := by simp [wideG, FT.ks]
theorem wide_made (n : Nat) : madeF 2 (wideG n) = true := by
  rw [madeF_5 (.inr rfl), decide_eq_true (fun i hi => by rw [wide_get (by rw [wide_len] at hi; exact hi)]; rfl)]
  rfl
theorem wide_is {n : Nat} (hn : n ≤ 10000) : isF 2 (wideG n) = true := by
  unfold isF
  have := dep_le 2 (wideG n)
  rw [wide_made, wide_siz, decide_eq_true (by omega), decide_eq_true (by omega)]
  rfl
theorem wide_gat (n : Nat) : ∀ i, i ≤ n → gatTo 1 (wideG n).ks [] i = []
  | 0, _ => rfl
  | i + 1, hi => by
    rw [gatTo_succ _ _ _ _ (by rw [wide_len]; omega), wide_gat n i (by omega), wide_get (by omega)]
    rfl
theorem wide_atoms (n : Nat) : atomsF 2 (wideG n) = [] := by
  unfold atomsF
  rw [gatTo_len, if_neg (show ¬ (wideG n).kind = 2 from (by decide : ¬ (6 : Int) = 2)), wide_len, wide_gat n n (Nat.le_refl _)]
def ups (i : Nat) : List Int := (List.range i).map fun j => ((j + 1 : Nat) : Int)
theorem ups_succ (i : Nat) : ups (i + 1) = ups i ++ [((i + 1 : Nat) : Int)] := by unfold ups; rw [List.range_succ, List.map_append]; rfl
theorem ups_mem {i : Nat} {x : Int} (h : x ∈ ups i) : 1 ≤ x ∧ x ≤ i := by
  unfold ups at h
  obtain ⟨j, hj, rfl⟩ := List.mem_map.1 h
  have := List.mem_range.1 hj
  omega
theorem ups_len (i : Nat) : (ups i).length = i := by simp [ups]
theorem leaf_mk (N : Nat) (cl : List (List Int)) : mkF [] 1 leaf0 N cl = ⟨N + 1, cl ++ [[((N + 1 : Nat) : Int)]], ((N + 1 : Nat) : Int)⟩ := by
  rw [mkF_x ⟨by decide, by decide⟩]
  have : leaf0.ks.length = 0 := rfl
  rw [this, mkTo_zero]
  rfl
theorem wide_to (n : Nat) : ∀ i, i ≤ n → mkTo [] 1 (wideG n).ks 0 [] i = (i, (ups i).map (fun x => [x]), ups i)
  | 0, _ => rfl
  | i + 1, hi => by
    rw [mkTo_succ _ _ _ _ _ _ (by rw [wide_len]; omega), wide_to n i (by omega), wide_get (by omega), leaf_mk, ups_succ, List.map_append]
    rfl
theorem wide_mk (n : Nat) : makF 2 (wideG n) = ⟨n + 1, (ups n).map (fun x => [x]) ++ joinL (-((n + 1 : Nat) : Int)) (-1) (ups n), ((n + 1 : Nat) : Int)⟩ := by
  unfold makF
  rw [wide_atoms, mkF_x (f := wideG n) ⟨show (6 : Int) ≠ 2 by decide, show (6 : Int) ≠ 4 by decide⟩, wide_len, show ([] : List (Int × List (Int × Int))).length = 0 from rfl, wide_to n n (Nat.le_refl _)]
  show (⟨n + 1, _ ++ ownC 6 _ _, _⟩ : MkR) = _
  rw [ownC_6]
theorem wide_cls (n : Nat) : clsF 2 (wideG n) = (ups n).map (fun x => [x]) ++ joinL (-((n + 1 : Nat) : Int)) (-1) (ups n) ++ [[((n + 1 : Nat) : Int)]] := by
  unfold clsF
  rw [wide_mk]
theorem wide_cls_len (n : Nat) : (clsF 2 (wideG n)).length = 2 * n + 2 := by
  rw [wide_cls]
  unfold joinL
  simp [ups_len]
  omega
theorem sumTo_eq (cs : List (List Int)) : ∀ k, k ≤ cs.length → Prp.sumTo cs k = ((cs.take k).map List.length).sum
  | 0, _ => rfl
  | k + 1, h => by
    rw [Prp.sumTo, sumTo_eq cs k (by omega), List.take_succ_eq_append_getElem h, List.map_append, List.sum_append]
    simp [List.getD_eq_getElem?_getD, show k < cs.length from h]
theorem sum_le (k : Nat) : ∀ (l : List (List Int)), (∀ x ∈ l, x.length ≤ k) → (l.map List.length).sum ≤ k * l.length
  | [], _ => by simp
  | x :: l, h => by
    have h1 := h x (by simp)
    have h2 := sum_le k l (fun y hy => h y (by simp [hy]))
    simp only [List.map_cons, List.sum_cons, List.length_cons, Nat.mul_add, Nat.mul_one]
    omega
theorem wide_sum (n : Nat) : Prp.sumTo (clsF 2 (wideG n)) (clsF 2 (wideG n)).length ≤ 4 * n + 2 := by
  rw [sumTo_eq _ _ (Nat.le_refl _), List.take_length, wide_cls]
  have h1 := sum_le 1 ((ups n).map (fun x => [x])) (fun x hx => by obtain ⟨y, _, rfl⟩ := List.mem_map.1 hx; simp)
  have h2 := sum_le 2 ((ups n).map fun l => [-(-((n + 1 : Nat) : Int)), -1 * l]) (fun x hx => by obtain ⟨y, _, rfl⟩ := List.mem_map.1 hx; simp)
  rw [List.length_map, ups_len] at h1 h2
  unfold joinL
  simp only [List.map_append, List.sum_append, List.map_cons, List.map_nil, List.sum_cons, List.sum_nil, List.length_cons, List.length_nil, List.length_map, ups_len]
  simp only [List.map_map] at h1 h2 ⊢
  omega
theorem wide_in (n : Nat) : (clsF 2 (wideG n)).all (Prp.litsB ((n + 1 : Nat) : Int)) = true := by
  refine List.all_eq_true.2 fun c hc => ?_
  refine Prp.litsB_iff.2 fun x hx => ?_
  rw [wide_cls] at hc
  unfold Prp.inR
  rcases List.mem_append.1 hc with hc | hc
  · rcases List.mem_append.1 hc with hc | hc
    · obtain ⟨y, hy, rfl⟩ := List.mem_map.1 hc
      have := ups_mem hy
      rw [List.mem_singleton] at hx
      omega
    · unfold joinL at hc
      rcases List.mem_append.1 hc with hc | hc
      · obtain ⟨y, hy, rfl⟩ := List.mem_map.1 hc
        have := ups_mem hy
        rcases List.mem_cons.1 hx with hx | hx
        · omega
        · rw [List.mem_singleton] at hx
          omega
      · rw [List.mem_singleton] at hc
        subst hc
        rcases List.mem_cons.1 hx with hx | hx
        · omega
        · obtain ⟨y, hy, rfl⟩ := List.mem_map.1 hx
          have := ups_mem hy
          omega
  · rw [List.mem_singleton] at hc
    subst hc
    rw [List.mem_singleton] at hx
    omega
theorem wide_k {n : Nat} (hn : n ≤ 10000) : cnfK 2 (wideG n) = if 8191 < n then 2 else 0 := by
  unfold cnfK
  rw [if_neg (by rw [wide_is hn]; simp)]
  have hN : (makF 2 (wideG n)).n = n + 1 := by rw [wide_mk]
  rw [hN]
  by_cases h : 8191 < n
  · rw [if_pos (.inl (by omega)), if_pos h]
  · have hs := wide_sum n
    have hc : Prp.chkK ((n + 1 : Nat) : Int) (clsF 2 (wideG n)) = 0 := by
      unfold Prp.chkK
      rw [if_neg (by omega), if_neg (by rw [wide_cls_len]; omega), if_neg (by omega), if_pos (wide_in n)]
    rw [if_neg (fun hh => by rcases hh with hh | hh; omega; exact hh hc), if_neg h]
theorem made_get (a b c d : Value) (n i j : Nat) (hi : i < n) (hj : j < 4) : (madeCells #[a, b, c, d] (n * 4)).toList[i * 4 + j]? = #[a, b, c, d][j]? := by
  have h1 : (i * 4 + j) % 4 = j := by omega
  have h2 : i * 4 + j < n * 4 := by omega
  simp [madeCells, h2, h1]
  rcases j with _ | _ | _ | _ | j <;> first | rfl | omega
theorem wide_lies (B n cap g : Nat) (w : World) (hB : B ≤ g) (hn : n ≤ 10000) (h : w.ownsRow B 27 4 (.slice (some ⟨g, 0, none⟩) n cap) n (madeCells #[.int .i64 0, .int .i64 0, .slice none 0 0, .slice none 0 0] (n * 4)).toList) :
    FLies w.heap.size w 2 (wideG n) [.int .i64 6, .int .i64 0, .slice none 0 0, .slice (some ⟨g, 0, none⟩) n cap] := by
  have hl : (wideG n).ks.length = n := by simp [wideG, FT.ks]
  refine ⟨none, 0, some ⟨g, 0, none⟩, cap, by rw [hl]; rfl, fun i hi => absurd hi (Nat.not_lt_zero i), by simp [wideG, FT.t], by rw [hl]; omega, fun i hi => ?_⟩
  rw [hl] at hi
  have hc := fun j hj => World.ownsRow.cells h (g := g) rfl (i * 4 + j) _ ((made_get (.int .i64 0) (.int .i64 0) (.slice none 0 0) (.slice none 0 0) n i j hi hj).trans (show _ = some (#[Value.int .i64 0, .int .i64 0, .slice none 0 0, .slice none 0 0][j]'hj) by simp))
  have ha : ∀ k, (⟨g, 0, none⟩ : Addr).add k = ⟨g, 0 + k, none⟩ := fun k => by unfold Addr.add; split <;> simp_all
  have q0 := hc 0 (by omega)
  have q1 := hc 1 (by omega)
  have q2 := hc 2 (by omega)
  have q3 := hc 3 (by omega)
  rw [ha, ← Nat.add_assoc] at q0 q1 q2 q3
  refine ⟨g, 0, _, _, _, _, rfl, (World.ownsRow.lt h g rfl).2, q0, q1, q2, q3, ?_⟩
  rw [wide_get hi]
  exact flies_leaf _ _ 0 0 [] none 0 (by simp) (fun i hi => absurd hi (Nat.not_lt_zero i))
end Go.Proofs.YtelndcmfddbgiaaDoor
