/- cut.Lines whole; cut.Refutes; the document's Light. How the arguments of layer 1 read: a list of terms, a form. How premises and steps read. The document's Same of lists. -/
import Derived.Test.YtmjhjacbhflcpaaMs01
import Derived.Test.YtmjhjacbhflcpaaMs02
import Derived.Test.YtmjhjacbhflcpaaMs08
import Derived.Test.YtmjhjacbhflcpaaRows
import Derived.ProofKit
import Derived.OpenShut
import Derived.ChangeOld
import Derived.Deep.Slices
import Derived.Deep.Fields
import Derived.Lib.SmallJoins
import Derived.Deep.RegionWith
set_option linter.unusedVariables false
set_option linter.unusedSimpArgs false
namespace Go.Proofs.Ytmjhjacbhflcpaa
open Go.RowKit Go.Maps

/-- Premises and steps that lie in memory. -/
structure Given (B : Nat) (w : World) (a : Option Addr) (n : Nat) (ls : List (Int × List (Int × Int))) (sa : Option Addr) (sn : Nat) (ss : List (List (Int × Int) × Int)) : Prop where
  ln : ls.length = n
  ll : LLies B w a ls
  lm : ∀ i, i < n → (ls.getD i (0, [])).2.length ≤ 9223372036854775807
  sl : ss.length = sn
  sll : SLies B w sa ss
  nm : n ≤ 9223372036854775807
  sm : sn ≤ 9223372036854775807
theorem Given.below {B : Nat} {w w' : World} {a : Option Addr} {n : Nat} {ls : List (Int × List (Int × Int))} {sa : Option Addr} {sn : Nat} {ss : List (List (Int × Int) × Int)} (h : Given B w a n ls sa sn ss) (hb : Below B w w') : Given B w' a n ls sa sn ss :=
  ⟨h.ln, h.ll.below hb, h.lm, h.sl, h.sll.below hb, h.nm, h.sm⟩
theorem SLies.mono {B B' : Nat} {w : World} {a : Option Addr} {ss : List (List (Int × Int) × Int)} (h : SLies B w a ss) (hB : B ≤ B') : SLies B' w a ss := fun i hi => by
  obtain ⟨b, off, ta, tcap, ha, hlt, hm, h1, h2, h3⟩ := h i hi
  exact ⟨b, off, ta, tcap, ha, by omega, hm, h1, h2, h3.mono hB⟩
theorem Given.mono {B B' : Nat} {w : World} {a : Option Addr} {n : Nat} {ls : List (Int × List (Int × Int))} {sa : Option Addr} {sn : Nat} {ss : List (List (Int × Int) × Int)} (h : Given B w a n ls sa sn ss) (hB : B ≤ B') : Given B' w a n ls sa sn ss :=
  ⟨h.ln, h.ll.mono hB, h.lm, h.sl, h.sll.mono hB, h.nm, h.sm⟩
theorem lines_any (a : Option Addr) (n cap : Nat) (ls : List (Int × List (Int × Int))) (sa : Option Addr) (sn scap : Nat) (ss : List (List (Int × Int) × Int)) (w : World) (h : Given w.heap.size w a n ls sa sn ss) (x at' : Int) (L : List (Int × List (Int × Int))) (hL : LinesIs ls ss x at' L) :
    Calls Try.prog 7 #[.slice a n cap, .slice sa sn scap] w (LinesEnd w.heap.size x at' L w) := by
  by_cases hl : 4096 < n ∨ 4096 < sn
  · have := lines_long a n cap ls sa sn scap ss w hl
    cases hL with
    | long _ => exact this
    | prem i g1 g2 => rw [h.ln] at g1; rw [h.sl] at g2; omega
    | step i g1 g2 => rw [h.ln] at g1; rw [h.sl] at g2; omega
    | ok g1 g2 => rw [h.ln] at g1; rw [h.sl] at g2; omega
  · exact lines_walk a n cap ls sa sn scap ss w h.ln (by omega) h.ll h.lm h.sl (by omega) h.sll x at' L hL
theorem LinesIs.zero {ls ss at' L} {x : Int} (h : LinesIs ls ss x at' L) (hx : x = 0) : at' = -1 ∧ lsOk ls ∧ (∀ j, j < ss.length → tellS (lnL ls ss j) (ss.getD j ([], 0)) = 0) ∧ L = lnL ls ss ss.length ∧ L.length ≤ 8192 := by
  cases h with
  | long _ => cases hx
  | prem _ => cases hx
  | step _ _ _ _ _ _ g => exact absurd hx g
  | ok g1 g2 g3 g4 => exact ⟨rfl, g3, g4, rfl, by rw [lnL_len]; omega⟩
def hasR (L : List (Int × List (Int × Int))) : Bool := L.any fun l => decide (l.2.length = 0 ∧ 0 < l.1)
def refX (x : Int) (L : List (Int × List (Int × Int))) : Int := if x = 0 then (if hasR L = true then 0 else 8) else x
theorem hasR_at {L : List (Int × List (Int × Int))} {i : Nat} (hi : i < L.length) (h : (L.getD i (0, [])).2.length = 0 ∧ 0 < (L.getD i (0, [])).1) : hasR L = true := by
  refine List.any_eq_true.2 ⟨L[i], List.getElem_mem hi, ?_⟩
  simp only [List.getD_eq_getElem?_getD, List.getElem?_eq_getElem hi, Option.getD_some] at h
  exact decide_eq_true h
theorem hasR_none {L : List (Int × List (Int × Int))} (h : ∀ i, i < L.length → ¬ ((L.getD i (0, [])).2.length = 0 ∧ 0 < (L.getD i (0, [])).1)) : hasR L = false := by
  refine List.any_eq_false.2 fun l hl => ?_
  obtain ⟨i, hi, rfl⟩ := List.getElem_of_mem hl
  have := h i hi
  simp only [List.getD_eq_getElem?_getD, List.getElem?_eq_getElem hi, Option.getD_some] at this
  simpa using this
def RefEnd (B : Nat) (x at' : Int) (w : World) (e : Ending) (w' : World) : Prop := ∃ er, e = .returned er ∧ ErrIs B x at' er w' ∧ Below B w w'
theorem Try.neIface (t : TypeId) (v : Value) (w : World) : (binOp .neq 28 (.iface t v) .nilIface).run Try.prog w = .ok (.bool true) w := by simp [go_sem]
theorem ErrIs.iface {B : Nat} {x at' : Int} {er : Value} {w : World} (h : ErrIs B x at' er w) (hx : x ≠ 0) : ∃ t v, er = .iface t v := by
  by_cases ha : at' < 0
  · exact ⟨_, _, (h.1 ha).trans (codeV_ne hx)⟩
  · obtain ⟨g, e, _⟩ := h.2 (by omega)
    exact ⟨_, _, e⟩

set_option maxRecDepth 100000 in
set_option maxHeartbeats 2000000 in
theorem refutes_any (a : Option Addr) (n cap : Nat) (ls : List (Int × List (Int × Int))) (sa : Option Addr) (sn scap : Nat) (ss : List (List (Int × Int) × Int)) (w : World) (h : Given w.heap.size w a n ls sa sn ss) (x at' : Int) (L : List (Int × List (Int × Int))) (hL : LinesIs ls ss x at' L) :
    Calls Try.prog 9 #[.slice a n cap, .slice sa sn scap] w (RefEnd w.heap.size (refX x L) at' w) := by
  have HLN := Lib.hid (lines_any a n cap ls sa sn scap ss w h x at' L hL)
  have n1 := fun t v W => Try.neIface t v W
  by_cases hx : x = 0
  · obtain ⟨rfl, _, _, _, hLm⟩ := hL.zero hx
    subst hx
    have HX0 : Hid (hasR L = true → refX 0 L = 0) := fun h => by unfold refX; rw [if_pos rfl, if_pos h]
    have HX8 : Hid (hasR L = false → refX 0 L = 8) := fun h => by unfold refX; rw [if_pos rfl, if_neg (by rw [h]; decide)]
    generalize refX 0 L = y at HX0 HX8
    clear h hL
    go_enter Try.func9, Try.ntmps9
    go_wp2_with fail
    refine HLN.out.mono ?_
    rintro e w1 ⟨v, er, xs, rfl, hrow, hfs, her, hb1⟩
    rw [her.1 (by omega), codeV_zero]
    obtain ⟨la, lcap, rfl, hll⟩ := hrow.llies
    rw [hfs] at hll
    have hxl : L.length = xs.length := by rw [← hfs, lforms_len]
    have HB := Lib.hid hb1
    have HLL := Lib.hid hll
    have hxm : xs.length ≤ 8192 := by omega
    have HXL := Lib.hid hxl
    clear hrow hfs her hb1 hll HLN hxl
    go_wp2_with fail
    go_loopw [20] (fun i wr => ∃ (k : Nat), k ≤ xs.length ∧ i = .int .i64 k ∧ Hid (∀ j, j < k → ¬ ((L.getD j (0, [])).2.length = 0 ∧ 0 < (L.getD j (0, [])).1)) ∧ Hid (Below w1.heap.size w1 wr)) (fun i _ => xs.length - (intOf i).toNat)
    case atStart => exact ⟨0, Nat.zero_le _, rfl, fun j hj => absurd hj (Nat.not_lt_zero _), Below.refl _ _⟩
    case round =>
      obtain ⟨k, hk, rfl, hno, hb⟩ := hrel
      by_cases hlt : k < xs.length
      · obtain ⟨b, off, ta, tcap, rfl, hblt, c0, c1, _⟩ := (HLL.out.below hb.out) k (by rw [HXL.out]; exact hlt)
        have hyes : (L.getD k (0, [])).2.length = 0 ∧ 0 < (L.getD k (0, [])).1 → y = 0 := fun h => HX0.out (hasR_at (by rw [HXL.out]; exact hlt) h)
        have hnot : ¬ ((L.getD k (0, [])).2.length = 0 ∧ 0 < (L.getD k (0, [])).1) → Hid (∀ j, j < k + 1 → ¬ ((L.getD j (0, [])).2.length = 0 ∧ 0 < (L.getD j (0, [])).1)) := fun h j hj => by
          by_cases e : j = k
          · subst e; exact h
          · exact hno.out j (by omega)
        generalize (L.getD k (0, [])).1 = C at c0 hyes hnot
        generalize (L.getD k (0, [])).2.length = m at c1 hyes hnot
        have HBA : Hid (Below w1.heap.size w1 (wr.alloc (.cells #[.int .i64 C, .slice ta m tcap] 35))) := hb.out.alloc hb.out.size _
        by_cases hm : m = 0
        · subst hm
          by_cases hC : 0 < C
          · obtain rfl := hyes ⟨rfl, hC⟩
            clear hyes hnot
            go_wp2_with fail
            go_ret
            exact ⟨_, rfl, ⟨fun _ => rfl, fun h => absurd h (by omega)⟩, HB.out.trans (HBA.out.mono HB.out.size)⟩
          · have HN := hnot (fun h => hC h.2)
            clear hyes hnot
            go_wp2_with fail
            refine ⟨⟨k + 1, by omega, by go_num, HN, HBA⟩, by simp [intOf]; omega⟩
        · have HN := hnot (fun h => hm h.1)
          have hm' : ¬ ((m : Int) = 0) := by omega
          clear hyes hnot
          go_wp2_with fail
          refine ⟨⟨k + 1, by omega, by go_num, HN, HBA⟩, by simp [intOf]; omega⟩
      · obtain rfl : k = xs.length := by omega
        obtain rfl := HX8.out (hasR_none (fun i hi => hno.out i (by rw [HXL.out] at hi; exact hi)))
        go_wp2_with fail
        go_ret
        exact ⟨_, rfl, ⟨fun _ => rfl, fun h => absurd h (by omega)⟩, HB.out.trans (hb.out.mono HB.out.size)⟩
  · have HX : Hid (refX x L = x) := if_neg hx
    generalize refX x L = y at HX
    clear h hL
    go_enter Try.func9, Try.ntmps9
    go_wp2_with fail
    refine HLN.out.mono ?_
    rintro e w1 ⟨v, er, xs, rfl, hrow, hfs, her, hb1⟩
    obtain ⟨t9, v9, rfl⟩ := her.iface hx
    have HE := Lib.hid her
    have HB := Lib.hid hb1
    clear her hb1 hrow hfs HLN
    go_wp2_with fail
    go_ret
    exact ⟨_, rfl, by rw [HX.out]; exact HE.out, HB.out⟩
end Go.Proofs.Ytmjhjacbhflcpaa

namespace Go.Proofs.Ytmjhjacbhflcpaa
open Go.ChangeShapes Go.WideShapes Go.RowKit Go.Deep

section
variable {H : Type} {enc : TypeId × Value → H} {P : Program} {w : World} {base : Nat} {spare : Nat → Bool} {held : Bool}
/-- A slice of structs of one-cell fields. -/
theorem open_slice_fields {t e : TypeId} {fs : Array Field} {fuel : Nat} {cs : List Value} {x : DataW H × List MemPlace} (ht : P.underlying t = some (.slice e)) (he : P.underlying e = some (.struct fs))
    (hone : oneCellFields P fs = true) (hC : P.cellsOf e = fs.size) (h : DataW.trod enc P w base spare held fuel t cs = some x) :
    (cs = [.slice none 0 0] ∧ x = (.nil, [])) ∨
    ∃ (a : Addr) (len cap m : Nat), cs = [.slice (some a) len cap] ∧ len ≤ cap ∧ cap ≤ maxLen ∧ len ≤ m ∧
      ∀ i, i < m → ∃ (n : Nat),
        ∀ (j : Nat) (f : Field), fs[j]? = some f → ∃ (v : Value) (y : DataW H × List MemPlace), w.cell? (a.add (i * fs.size + j)) = some v ∧ DataW.trod enc P w base spare held n f.type [v] = some y := by
  rcases open_slice ht h with h0 | ⟨a, len, cap, m, n, D, Pl, hcs, _, hl, hm, hmm, _, hi⟩
  · exact .inl h0
  · refine .inr ⟨a, len, cap, m, hcs, hl, hm, by rw [hmm]; split <;> omega, fun i him => ?_⟩
    obtain ⟨cs', hc, ht'⟩ := hi i him
    rw [hC] at hc
    obtain ⟨ys, n', _, _, _, hyl, hf⟩ := DataW.trod_struct he ht'
    obtain ⟨_, hcl, hat⟩ := World.cells?_some hc
    refine ⟨n', fun j f hj => ?_⟩
    obtain ⟨ho, hk⟩ := hone_of hone j f hj
    have hjl : j < fs.size := (Array.getElem?_eq_some_iff.1 hj).1
    have hcell := hat j hjl
    have hv : cs'[j]? = some (cs'[j]'(by omega)) := List.getElem?_eq_getElem (by omega)
    have h1 := hf j f hj
    rw [ho, hk] at h1
    have hone' : (cs'.drop j).take 1 = [cs'[j]'(by omega)] := by
      rw [List.drop_eq_getElem_cons (by omega)]
      rfl
    rw [hone'] at h1
    have hys : ys[j]? = some (ys[j]'(by omega)) := List.getElem?_eq_getElem (by omega)
    refine ⟨_, _, ?_, h1.trans hys⟩
    rw [← Go.Deep.add_add, hcell, hv]
end

/-- A list of terms that came in. -/
def Came (w : World) (a : Option Addr) (n cap : Nat) (l : List (Int × Int)) : Prop :=
  l.length = n ∧ n ≤ cap ∧ cap ≤ maxLen ∧ (a = none → n = 0 ∧ cap = 0) ∧ Lies w.heap.size w a l ∧ ∀ m ∈ l, (Lit.int .i64 m.1).wf = true ∧ (Lit.int .i64 m.2).wf = true

theorem list_of (n : Nat) (p : Nat → Int × Int → Prop) (h : ∀ i, i < n → ∃ m, p i m) : ∃ l : List (Int × Int), l.length = n ∧ ∀ i, i < n → p i (l.getD i (0, 0)) := by
  induction n with
  | zero => exact ⟨[], rfl, fun i hi => absurd hi (Nat.not_lt_zero i)⟩
  | succ n ih =>
    obtain ⟨l, hl, hp⟩ := ih (fun i hi => h i (by omega))
    obtain ⟨m, hm⟩ := h n (by omega)
    refine ⟨l ++ [m], by simp [hl], fun i hi => ?_⟩
    by_cases e : i = n
    · subst e
      rw [List.getD_eq_getElem?_getD, List.getElem?_append_right (by omega), hl]
      simpa using hm
    · have := hp i (by omega)
      rw [List.getD_eq_getElem?_getD] at this ⊢
      rwa [List.getElem?_append_left (by omega)]

section
variable {H : Type} {enc : TypeId × Value → H} {w : World} {base : Nat} {spare : Nat → Bool} {held : Bool}
theorem open_monos {fuel : Nat} {v : Value} {x : DataW H × List MemPlace} (h : DataW.trod enc Try.prog w base spare held fuel 33 [v] = some x) : ∃ a n cap l, v = .slice a n cap ∧ Came w a n cap l := by
  rcases open_slice_fields Try.underlying33 Try.underlying41 (by kernel_rfl) (by kernel_rfl) h with ⟨hcs, _⟩ | ⟨a, len, cap, m, hcs, hl, hm, hlm, hi⟩
  · injection hcs with hv
    exact ⟨none, 0, 0, [], hv, rfl, Nat.le_refl _, Nat.zero_le _, fun _ => ⟨rfl, rfl⟩, fun i hi => absurd hi (Nat.not_lt_zero i), fun m hm => by cases hm⟩
  · injection hcs with hv
    have hp : ∀ i, i < len → ∃ m : Int × Int, w.cell? (a.add (i * 2)) = some (.int .i64 m.1) ∧ w.cell? (a.add (i * 2 + 1)) = some (.int .i64 m.2) ∧ (Lit.int .i64 m.1).wf = true ∧ (Lit.int .i64 m.2).wf = true := by
      intro i hil
      obtain ⟨n, hf⟩ := hi i (by omega)
      obtain ⟨v0, y0, c0, t0⟩ := hf 0 _ rfl
      obtain ⟨v1, y1, c1, t1⟩ := hf 1 _ rfl
      obtain ⟨x0, e0, _, w0⟩ := DataW.trod_int Try.underlying3 t0
      obtain ⟨x1, e1, _, w1⟩ := DataW.trod_int Try.underlying3 t1
      injection e0 with e0
      injection e1 with e1
      subst e0 e1
      exact ⟨(x0, x1), c0, c1, w0, w1⟩
    obtain ⟨l, hll, hlp⟩ := list_of len _ hp
    refine ⟨some a, len, cap, l, hv, hll, hl, hm, (fun e => by cases e), fun i hi => ?_, fun m hm => ?_⟩
    · obtain ⟨c0, c1, _, _⟩ := hlp i (by omega)
      obtain ⟨b, off, spot⟩ := a
      have hs : spot = none := by
        have := World.cell?_spot c1
        by_cases h0 : spot = none
        · exact h0
        · have c00 := (hlp 0 (by omega)).1
          simpa [Addr.add] using World.cell?_spot c00
      subst hs
      refine ⟨b, off, rfl, ?_, ?_, ?_⟩
      · have := block_lt_of_cell c1
        simpa [Addr.add] using this
      · rw [Go.WideShapes.add_plain] at c0; exact c0
      · rw [Go.WideShapes.add_plain] at c1; exact c1
    · obtain ⟨i, hi, rfl⟩ := List.getElem_of_mem hm
      have := hlp i (by omega)
      rw [List.getD_eq_getElem?_getD, List.getElem?_eq_getElem hi] at this
      exact this.2.2

set_option maxRecDepth 100000 in
/-- Numbers that came in. -/
theorem open_nums {r : Reach} {b0 : Nat} {v : Value} {d : DataW H} {p : List MemPlace} (hv : Value.okWide Try.prog w r b0 24 v) (h : DataW.Trod enc Try.prog w base spare held 24 v d p) :
    ∃ (a : Option Addr) (n cap : Nat) (zs : List Int), v = .slice a n cap ∧ zs.length = n ∧ n ≤ cap ∧ cap ≤ maxLen ∧ (∀ i, i < zs.length → ∃ b off, a = some ⟨b, off, none⟩ ∧ b < w.heap.size ∧ w.cell? ⟨b, off + i, none⟩ = some (.int .i64 (zs.getD i 0))) ∧ ∀ m ∈ zs, (Lit.int .i64 m).wf = true := by
  obtain ⟨a, len, cap, rfl⟩ := okWide_slice Try.underlying24 hv
  obtain ⟨fuel, hf⟩ := h
  rcases open_ints Try.underlying24 Try.underlying3 (by kernel_rfl) hf with ⟨hcs, _⟩ | ⟨x, l, c, zs, hcs, _, hl, hm, hz, _, hcell, hwz⟩
  · simp [Value.cells] at hcs
    obtain ⟨rfl, rfl, rfl⟩ := hcs
    exact ⟨none, 0, 0, [], rfl, rfl, Nat.le_refl _, Nat.zero_le _, fun i hi => absurd hi (Nat.not_lt_zero i), fun m hm => by cases hm⟩
  · simp [Value.cells] at hcs
    obtain ⟨rfl, rfl, rfl⟩ := hcs
    have hz' : len ≤ zs.length := by rw [hz]; split <;> omega
    clear hz
    refine ⟨some x, len, cap, zs.take len, rfl, by simp; omega, hl, hm, fun i hi => ?_, fun m hm => hwz m (List.mem_of_mem_take hm)⟩
    have hi' : i < len := by rw [List.length_take] at hi; omega
    obtain ⟨b, off, rfl, hc⟩ := ints_at hcell (by omega)
    have h1 := hc i (by omega)
    refine ⟨b, off, rfl, by simpa using block_lt_of_cell h1, ?_⟩
    rw [h1]
    simp [List.getD_eq_getElem?_getD, hi']
set_option maxRecDepth 100000 in
/-- A form that came in. -/
theorem open_lin {r : Reach} {b0 : Nat} {v : Value} {d : DataW H} {p : List MemPlace} (hv : Value.okWide Try.prog w r b0 35 v) (h : DataW.Trod enc Try.prog w base spare held 35 v d p) :
    ∃ c a n cap l, v = .agg #[.int .i64 c, .slice a n cap] ∧ Came w a n cap l ∧ (Lit.int .i64 c).wf = true := by
  obtain ⟨v0, v1, y0, y1, n, rfl, _, _, h0, h1⟩ := Joins.open_agg2 Try.underlying35 (by kernel_rfl) (by kernel_rfl) hv h
  obtain ⟨x0, e0, _, w0⟩ := DataW.trod_int Try.underlying3 h0
  injection e0 with e0
  subst e0
  obtain ⟨a, n, cap, l, rfl, hc⟩ := open_monos h1
  exact ⟨x0, a, n, cap, l, rfl, hc, w0⟩
end
end Go.Proofs.Ytmjhjacbhflcpaa

namespace Go.Proofs.Ytmjhjacbhflcpaa
open Go.ChangeShapes Go.WideShapes Go.RowKit Go.Deep

theorem list_ofD {α : Type} (d : α) (n : Nat) (p : Nat → α → Prop) (h : ∀ i, i < n → ∃ m, p i m) : ∃ l : List α, l.length = n ∧ ∀ i, i < n → p i (l.getD i d) := by
  induction n with
  | zero => exact ⟨[], rfl, fun i hi => absurd hi (Nat.not_lt_zero i)⟩
  | succ n ih =>
    obtain ⟨l, hl, hp⟩ := ih (fun i hi => h i (by omega))
    obtain ⟨m, hm⟩ := h n (by omega)
    refine ⟨l ++ [m], by simp [hl], fun i hi => ?_⟩
    by_cases e : i = n
    · subst e
      rw [List.getD_eq_getElem?_getD, List.getElem?_append_right (by omega), hl]
      simpa using hm
    · have := hp i (by omega)
      rw [List.getD_eq_getElem?_getD] at this ⊢
      rwa [List.getElem?_append_left (by omega)]

section
variable {H : Type} {enc : TypeId × Value → H} {w : World} {base : Nat} {spare : Nat → Bool} {held : Bool}
theorem open_parts {fuel : Nat} {v : Value} {x : DataW H × List MemPlace} (h : DataW.trod enc Try.prog w base spare held fuel 44 [v] = some x) : ∃ a n cap l, v = .slice a n cap ∧ Came w a n cap l := by
  rcases open_slice_fields Try.underlying44 Try.underlying43 (by kernel_rfl) (by kernel_rfl) h with ⟨hcs, _⟩ | ⟨a, len, cap, m, hcs, hl, hm, hlm, hi⟩
  · injection hcs with hv
    exact ⟨none, 0, 0, [], hv, rfl, Nat.le_refl _, Nat.zero_le _, fun _ => ⟨rfl, rfl⟩, fun i hi => absurd hi (Nat.not_lt_zero i), fun m hm => by cases hm⟩
  · injection hcs with hv
    have hp : ∀ i, i < len → ∃ m : Int × Int, w.cell? (a.add (i * 2)) = some (.int .i64 m.1) ∧ w.cell? (a.add (i * 2 + 1)) = some (.int .i64 m.2) ∧ (Lit.int .i64 m.1).wf = true ∧ (Lit.int .i64 m.2).wf = true := by
      intro i hil
      obtain ⟨n, hf⟩ := hi i (by omega)
      obtain ⟨v0, y0, c0, t0⟩ := hf 0 _ rfl
      obtain ⟨v1, y1, c1, t1⟩ := hf 1 _ rfl
      obtain ⟨x0, e0, _, w0⟩ := DataW.trod_int Try.underlying3 t0
      obtain ⟨x1, e1, _, w1⟩ := DataW.trod_int Try.underlying3 t1
      injection e0 with e0
      injection e1 with e1
      subst e0 e1
      exact ⟨(x0, x1), c0, c1, w0, w1⟩
    obtain ⟨l, hll, hlp⟩ := list_of len _ hp
    refine ⟨some a, len, cap, l, hv, hll, hl, hm, (fun e => by cases e), fun i hi => ?_, fun m hm => ?_⟩
    · obtain ⟨c0, c1, _, _⟩ := hlp i (by omega)
      obtain ⟨b, off, spot⟩ := a
      have hs : spot = none := by
        have := World.cell?_spot c1
        by_cases h0 : spot = none
        · exact h0
        · have c00 := (hlp 0 (by omega)).1
          simpa [Addr.add] using World.cell?_spot c00
      subst hs
      refine ⟨b, off, rfl, ?_, ?_, ?_⟩
      · have := block_lt_of_cell c1
        simpa [Addr.add] using this
      · rw [Go.WideShapes.add_plain] at c0; exact c0
      · rw [Go.WideShapes.add_plain] at c1; exact c1
    · obtain ⟨i, hi, rfl⟩ := List.getElem_of_mem hm
      have := hlp i (by omega)
      rw [List.getD_eq_getElem?_getD, List.getElem?_eq_getElem hi] at this
      exact this.2.2

set_option maxRecDepth 100000 in
/-- Premises that came in. -/
theorem open_lins {r : Reach} {b0 : Nat} {v : Value} {d : DataW H} {p : List MemPlace} (hv : Value.okWide Try.prog w r b0 22 v) (h : DataW.Trod enc Try.prog w base spare held 22 v d p) :
    ∃ (a : Option Addr) (n cap : Nat) (ls : List (Int × List (Int × Int))), v = .slice a n cap ∧ ls.length = n ∧ n ≤ maxLen ∧ LLies w.heap.size w a ls ∧ (∀ i, i < n → (ls.getD i (0, [])).2.length ≤ 9223372036854775807) := by
  obtain ⟨a, len, cap, rfl⟩ := okWide_slice Try.underlying22 hv
  obtain ⟨fuel, hf⟩ := h
  rcases open_slice_fields Try.underlying22 Try.underlying35 (by kernel_rfl) (by kernel_rfl) hf with ⟨hcs, _⟩ | ⟨x, l, c, m, hcs, hl, hm, hlm, hi⟩
  · simp [Value.cells] at hcs
    obtain ⟨rfl, rfl, rfl⟩ := hcs
    exact ⟨none, 0, 0, [], rfl, rfl, Nat.zero_le _, fun i hi => absurd hi (Nat.not_lt_zero i), fun i hi => absurd hi (Nat.not_lt_zero i)⟩
  · simp [Value.cells] at hcs
    obtain ⟨rfl, rfl, rfl⟩ := hcs
    have hp : ∀ i, i < len → ∃ z : Int × List (Int × Int), ∃ ta tcap, w.cell? (x.add (i * 2)) = some (.int .i64 z.1) ∧ w.cell? (x.add (i * 2 + 1)) = some (.slice ta z.2.length tcap) ∧ Lies w.heap.size w ta z.2 ∧ z.2.length ≤ 9223372036854775807 := by
      intro i hil
      obtain ⟨n, hf⟩ := hi i (by omega)
      obtain ⟨v0, y0, c0, t0⟩ := hf 0 _ rfl
      obtain ⟨v1, y1, c1, t1⟩ := hf 1 _ rfl
      obtain ⟨x0, e0, _, w0⟩ := DataW.trod_int Try.underlying3 t0
      injection e0 with e0
      subst e0
      obtain ⟨ta, tn, tcap, tl, rfl, h1, h2, h3, _, h5, _⟩ := open_monos t1
      subst h1
      exact ⟨(x0, tl), ta, tcap, c0, c1, h5, by unfold maxLen at h3; show tl.length ≤ _; omega⟩
    obtain ⟨ls, hll, hlp⟩ := list_ofD ((0 : Int), ([] : List (Int × Int))) len _ hp
    refine ⟨some x, len, cap, ls, rfl, hll, Nat.le_trans hl hm, fun i hi => ?_, fun i hi => (hlp i hi).choose_spec.choose_spec.2.2.2⟩
    obtain ⟨ta, tcap, c0, c1, hli, _⟩ := hlp i (by omega)
    obtain ⟨b, off, spot⟩ := x
    have hs : spot = none := by
      have := World.cell?_spot c1
      by_cases h0 : spot = none
      · exact h0
      · obtain ⟨_, _, c00, _⟩ := hlp 0 (by omega)
        simpa [Addr.add] using World.cell?_spot c00
    subst hs
    refine ⟨b, off, ta, tcap, rfl, ?_, ?_, ?_, hli⟩
    · have := block_lt_of_cell c1
      simpa [Addr.add] using this
    · rw [Go.WideShapes.add_plain] at c0; exact c0
    · rw [Go.WideShapes.add_plain] at c1; exact c1
set_option maxRecDepth 100000 in
/-- Steps that came in. -/
theorem open_steps {r : Reach} {b0 : Nat} {v : Value} {d : DataW H} {p : List MemPlace} (hv : Value.okWide Try.prog w r b0 23 v) (h : DataW.Trod enc Try.prog w base spare held 23 v d p) :
    ∃ (a : Option Addr) (n cap : Nat) (ss : List (List (Int × Int) × Int)), v = .slice a n cap ∧ ss.length = n ∧ n ≤ maxLen ∧ SLies w.heap.size w a ss := by
  obtain ⟨a, len, cap, rfl⟩ := okWide_slice Try.underlying23 hv
  obtain ⟨fuel, hf⟩ := h
  rcases open_slice_fields Try.underlying23 Try.underlying46 (by kernel_rfl) (by kernel_rfl) hf with ⟨hcs, _⟩ | ⟨x, l, c, m, hcs, hl, hm, hlm, hi⟩
  · simp [Value.cells] at hcs
    obtain ⟨rfl, rfl, rfl⟩ := hcs
    exact ⟨none, 0, 0, [], rfl, rfl, Nat.zero_le _, fun i hi => absurd hi (Nat.not_lt_zero i)⟩
  · simp [Value.cells] at hcs
    obtain ⟨rfl, rfl, rfl⟩ := hcs
    have hp : ∀ i, i < len → ∃ z : List (Int × Int) × Int, ∃ ta tcap, w.cell? (x.add (i * 2)) = some (.slice ta z.1.length tcap) ∧ w.cell? (x.add (i * 2 + 1)) = some (.int .i64 z.2) ∧ Lies w.heap.size w ta z.1 ∧ z.1.length ≤ 9223372036854775807 := by
      intro i hil
      obtain ⟨n, hf⟩ := hi i (by omega)
      obtain ⟨v0, y0, c0, t0⟩ := hf 0 _ rfl
      obtain ⟨v1, y1, c1, t1⟩ := hf 1 _ rfl
      obtain ⟨x1, e1, _, w1⟩ := DataW.trod_int Try.underlying3 t1
      injection e1 with e1
      subst e1
      obtain ⟨ta, tn, tcap, tl, rfl, h1, h2, h3, _, h5, _⟩ := open_parts t0
      subst h1
      exact ⟨(tl, x1), ta, tcap, c0, c1, h5, by unfold maxLen at h3; show tl.length ≤ _; omega⟩
    obtain ⟨ss, hll, hlp⟩ := list_ofD (([] : List (Int × Int)), (0 : Int)) len _ hp
    refine ⟨some x, len, cap, ss, rfl, hll, Nat.le_trans hl hm, fun i hi => ?_⟩
    obtain ⟨ta, tcap, c0, c1, hli, hlm⟩ := hlp i (by omega)
    obtain ⟨b, off, spot⟩ := x
    have hs : spot = none := by
      have := World.cell?_spot c1
      by_cases h0 : spot = none
      · exact h0
      · obtain ⟨_, _, c00, _⟩ := hlp 0 (by omega)
        simpa [Addr.add] using World.cell?_spot c00
    subst hs
    refine ⟨b, off, ta, tcap, rfl, ?_, hlm, ?_, ?_, hli⟩
    · have := block_lt_of_cell c1
      simpa [Addr.add] using this
    · rw [Go.WideShapes.add_plain] at c0; exact c0
    · rw [Go.WideShapes.add_plain] at c1; exact c1
end
end Go.Proofs.Ytmjhjacbhflcpaa

namespace Go.Proofs.Ytmjhjacbhflcpaa
open Go.RowKit Go.Maps

theorem forms_eq {ls ms : List (Int × List (Int × Int))} (hl : ls.length = ms.length) (h : ∀ i, i < ls.length → ls.getD i (0, []) = ms.getD i (0, [])) : ls = ms := by
  refine List.ext_getElem hl fun i h1 h2 => ?_
  have := h i h1
  simpa [List.getD_eq_getElem?_getD, h1, h2] using this
theorem same_iff {c d : Int} {l m : List (Int × Int)} : same c d l m = true ↔ (c, l) = (d, m) := by
  unfold same
  simp
set_option maxRecDepth 100000 in
set_option maxHeartbeats 2000000 in
theorem rsames_any (a : Option Addr) (n cap : Nat) (ls : List (Int × List (Int × Int))) (b : Option Addr) (m capb : Nat) (ms : List (Int × List (Int × Int))) (w : World) (hn : ls.length = n) (hm : ms.length = m) (hnm : n ≤ 9223372036854775807) (hmm : m ≤ 9223372036854775807)
    (hl : LLies w.heap.size w a ls) (hlm : ∀ i, i < n → (ls.getD i (0, [])).2.length ≤ 9223372036854775807) (hk : LLies w.heap.size w b ms) (hkm : ∀ i, i < m → (ms.getD i (0, [])).2.length ≤ 9223372036854775807) :
    Calls Try.prog 10 #[.slice a n cap, .slice b m capb] w fun e w' => e = .returned (.bool (decide (ls = ms))) ∧ Below w.heap.size w w' := by
  by_cases hnn : n = m
  · subst hnn
    have HS : Hid (∀ r : Bool, (r = true ↔ ∀ i, i < n → ls.getD i (0, []) = ms.getD i (0, [])) → decide (ls = ms) = r) := fun r hr => by
      rw [Bool.eq_iff_iff, hr]
      simp only [decide_eq_true_eq]
      exact ⟨fun h i _ => by rw [h], fun h => forms_eq (by omega) (fun i hi => h i (by omega))⟩
    have HN := Lib.hid hn
    have HM := Lib.hid hm
    have HL := Lib.hid hl
    have HK := Lib.hid hk
    have HLM := Lib.hid hlm
    have HKM := Lib.hid hkm
    generalize decide (ls = ms) = R at HS ⊢
    clear hn hm hl hk hlm hkm
    go_enter Try.func10, Try.ntmps10
    go_wp2_with fail
    go_loopw [5] (fun i wr => ∃ k : Nat, k ≤ n ∧ i = .int .i64 k ∧ Hid (∀ j, j < k → ls.getD j (0, []) = ms.getD j (0, [])) ∧ Hid (Below w.heap.size w wr)) (fun i _ => n - (intOf i).toNat)
    case atStart => exact ⟨0, Nat.zero_le _, rfl, fun j hj => absurd hj (Nat.not_lt_zero j), Below.refl _ _⟩
    case round =>
      obtain ⟨k, hk', rfl, hok, hb⟩ := hrel
      by_cases hlt : k < n
      · obtain ⟨ab, aoff, ta, tcap, rfl, hab, a1, a2, hla⟩ := HL.out k (by rw [HN.out]; exact hlt)
        obtain ⟨bb, boff, tb, tcapb, rfl, hbb, b1, b2, hlb⟩ := HK.out k (by rw [HM.out]; exact hlt)
        rw [← hb.out.cell (p := ⟨ab, _, none⟩) hab] at a1 a2
        rw [← hb.out.cell (p := ⟨bb, _, none⟩) hbb] at b1 b2
        have hl1 := HLM.out k hlt
        have hl2 := HKM.out k hlt
        have hdec : Hid (same (ls.getD k (0, [])).1 (ms.getD k (0, [])).1 (ls.getD k (0, [])).2 (ms.getD k (0, [])).2 = true ↔ ls.getD k (0, []) = ms.getD k (0, [])) := same_iff
        have HNO : Hid (ls.getD k (0, []) ≠ ms.getD k (0, []) → R = false) := fun h => HS.out false ⟨fun h => absurd h (by decide), fun h2 => absurd (h2 k hlt) h⟩
        have HYES : Hid (ls.getD k (0, []) = ms.getD k (0, []) → ∀ j, j < k + 1 → ls.getD j (0, []) = ms.getD j (0, [])) := fun h j hj => by
          by_cases e : j = k
          · subst e; exact h
          · exact hok.out j (by omega)
        obtain ⟨z1, hz1⟩ : ∃ z, z = ls.getD k (0, []) := ⟨_, rfl⟩
        obtain ⟨z2, hz2⟩ : ∃ z, z = ms.getD k (0, []) := ⟨_, rfl⟩
        rw [← hz1] at a1 a2 hla hl1 hdec HNO HYES
        rw [← hz2] at b1 b2 hlb hl2 hdec HNO HYES
        obtain ⟨c, t⟩ := z1
        obtain ⟨d, u⟩ := z2
        clear hz1 hz2
        simp only at a1 a2 b1 b2 hla hlb hl1 hl2
        have HC := Lib.hid (fun W (hb : Below w.heap.size w W) => same_any c d ta tb t.length u.length tcap tcapb t u W rfl rfl hl1 hl2 ((hla.below hb).mono hb.size) ((hlb.below hb).mono hb.size))
        have HBD : Hid (Below w.heap.size w wr.drew) := hb.out.drew
        clear hla hlb hl1 hl2
        by_cases e : same c d t u = true
        · rw [e] at HC
          have HY : Hid (∀ j, j < k + 1 → ls.getD j (0, []) = ms.getD j (0, [])) := HYES.out (hdec.out.1 e)
          clear e HNO HYES hdec
          go_wp2_with fail
          go_region_with (go_at_call 16; refine (HC.out _ HBD.out).mono ?_; rintro e w4 ⟨rfl, hb4⟩; have HB4 := Lib.hid (HBD.out.trans (hb4.mono HBD.out.size)); clear hb4)
          all_goals
            clear a1 a2 b1 b2
            go_wp2_with fail
            refine ⟨⟨k + 1, by omega, by go_num, HY, HB4⟩, by simp [intOf]; omega⟩
        · have HF := Lib.hid (HNO.out (fun h => e (hdec.out.2 h)))
          rw [Bool.not_eq_true] at e
          rw [e] at HC
          clear e HNO HYES hdec
          go_wp2_with fail
          go_region_with (go_at_call 16; refine (HC.out _ HBD.out).mono ?_; rintro e w4 ⟨rfl, hb4⟩; have HB4 := Lib.hid (HBD.out.trans (hb4.mono HBD.out.size)); clear hb4)
          all_goals
            clear a1 a2 b1 b2
            go_wp2_with fail
            go_ret
            exact ⟨ret_bool HF.out.symm, HB4.out⟩
      · have HF := Lib.hid (HS.out true ⟨fun _ i hi => hok.out i (by omega), fun _ => rfl⟩)
        go_wp2_with fail
        go_ret
        exact ⟨ret_bool HF.out.symm, hb.out⟩
  · have hnn' : ((n : Int) != (m : Int)) = true := by simp; omega
    have HS : Hid (decide (ls = ms) = false) := decide_eq_false (fun h => hnn (by rw [← hn, ← hm, h]))
    clear hn hm hl hk
    go_enter Try.func10, Try.ntmps10
    go_wp2_with fail
    go_ret
    exact ⟨ret_bool HS.out.symm, Below.refl _ _⟩
end Go.Proofs.Ytmjhjacbhflcpaa
