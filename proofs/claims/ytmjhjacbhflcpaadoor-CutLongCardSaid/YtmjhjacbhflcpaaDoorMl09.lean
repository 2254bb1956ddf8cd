/- cut.Lines whole; cut.Refutes; the document's Light. The document's example of layer 4; the document's Light. errors.As at a place for a *api.Spot. -/
import Derived.Test.YtmjhjacbhflcpaaDoorMl02
import Derived.Test.YtmjhjacbhflcpaaDoorMl08
import Derived.Test.YtmjhjacbhflcpaaDoorProg
import Derived.WalkKit
import Derived.LaidEql
import Derived.Stop.Asserts
import Derived.RowKitTokens
set_option linter.unusedVariables false
set_option linter.unusedSimpArgs false
namespace Go.Proofs.YtmjhjacbhflcpaaDoor
open Go.RowKit Go.Maps

/-- Premises and steps that lie in memory. -/
structure Given (B : Nat) (w : World) (a : Option Addr) (n : Nat) (ls : List (Int × List (Int × Int))) (sa : Option Addr) (sn : Nat) (ss : List (List (Int × Int) × Int)) : Prop where
  ln : ls.length = n
  ll : LLies B w a ls
  lm : ∀ i, i < n → (ls.getD i (0, [])).2.length ≤ 9223372036854775807
  sl : ss.length = sn
  sll : SLies B w sa ss
  nm : n ≤ 9223372036854775807
  sm : sn ≤ 9223372036854775807
theorem Given.below {B : Nat} {w w' : World} {a : Option Addr} {n : Nat} {ls : List (Int × List (Int × Int))} {sa : Option Addr} {sn : Nat} {ss : List (List (Int × Int) × Int)} (h : Given B w a n ls sa sn ss) (hb : Below B w w') : Given B w' a n ls sa sn ss :=
  ⟨h.ln, h.ll.below hb, h.lm, h.sl, h.sll.below hb, h.nm, h.sm⟩
theorem SLies.mono {B B' : Nat} {w : World} {a : Option Addr} {ss : List (List (Int × Int) × Int)} (h : SLies B w a ss) (hB : B ≤ B') : SLies B' w a ss := fun i hi => by
  obtain ⟨b, off, ta, tcap, ha, hlt, hm, h1, h2, h3⟩ := h i hi
  exact ⟨b, off, ta, tcap, ha, by omega, hm, h1, h2, h3.mono hB⟩
theorem Given.mono {B B' : Nat} {w : World} {a : Option Addr} {n : Nat} {ls : List (Int × List (Int × Int))} {sa : Option Addr} {sn : Nat} {ss : List (List (Int × Int) × Int)} (h : Given B w a n ls sa sn ss) (hB : B ≤ B') : Given B' w a n ls sa sn ss :=
  ⟨h.ln, h.ll.mono hB, h.lm, h.sl, h.sll.mono hB, h.nm, h.sm⟩
theorem lines_any (a : Option Addr) (n cap : Nat) (ls : List (Int × List (Int × Int))) (sa : Option Addr) (sn scap : Nat) (ss : List (List (Int × Int) × Int)) (w : World) (h : Given w.heap.size w a n ls sa sn ss) (x at' : Int) (L : List (Int × List (Int × Int))) (hL : LinesIs ls ss x at' L) :
    Calls Tryd.prog 8 #[.slice a n cap, .slice sa sn scap] w (LinesEnd w.heap.size x at' L w) := by
  by_cases hl : 4096 < n ∨ 4096 < sn
  · have := lines_long a n cap ls sa sn scap ss w hl
    cases hL with
    | long _ => exact this
    | prem i g1 g2 => rw [h.ln] at g1; rw [h.sl] at g2; omega
    | step i g1 g2 => rw [h.ln] at g1; rw [h.sl] at g2; omega
    | ok g1 g2 => rw [h.ln] at g1; rw [h.sl] at g2; omega
  · exact lines_walk a n cap ls sa sn scap ss w h.ln (by omega) h.ll h.lm h.sl (by omega) h.sll x at' L hL
theorem LinesIs.zero {ls ss at' L} {x : Int} (h : LinesIs ls ss x at' L) (hx : x = 0) : at' = -1 ∧ lsOk ls ∧ (∀ j, j < ss.length → tellS (lnL ls ss j) (ss.getD j ([], 0)) = 0) ∧ L = lnL ls ss ss.length ∧ L.length ≤ 8192 := by
  cases h with
  | long _ => cases hx
  | prem _ => cases hx
  | step _ _ _ _ _ _ g => exact absurd hx g
  | ok g1 g2 g3 g4 => exact ⟨rfl, g3, g4, rfl, by rw [lnL_len]; omega⟩
def hasR (L : List (Int × List (Int × Int))) : Bool := L.any fun l => decide (l.2.length = 0 ∧ 0 < l.1)
def refX (x : Int) (L : List (Int × List (Int × Int))) : Int := if x = 0 then (if hasR L = true then 0 else 8) else x
theorem hasR_at {L : List (Int × List (Int × Int))} {i : Nat} (hi : i < L.length) (h : (L.getD i (0, [])).2.length = 0 ∧ 0 < (L.getD i (0, [])).1) : hasR L = true := by
  refine List.any_eq_true.2 ⟨L[i], List.getElem_mem hi, ?_⟩
  simp only [List.getD_eq_getElem?_getD, List.getElem?_eq_getElem hi, Option.getD_some] at h
  exact decide_eq_true h
theorem hasR_none {L : List (Int × List (Int × Int))} (h : ∀ i, i < L.length → ¬ ((L.getD i (0, [])).2.length = 0 ∧ 0 < (L.getD i (0, [])).1)) : hasR L = false := by
  refine List.any_eq_false.2 fun l hl => ?_
  obtain ⟨i, hi, rfl⟩ := List.getElem_of_mem hl
  have := h i hi
  simp only [List.getD_eq_getElem?_getD, List.getElem?_eq_getElem hi, Option.getD_some] at this
  simpa using this
def RefEnd (B : Nat) (x at' : Int) (w : World) (e : Ending) (w' : World) : Prop := ∃ er, e = .returned er ∧ ErrIs B x at' er w' ∧ Below B w w'
theorem Tryd.neIface (t : TypeId) (v : Value) (w : World) : (binOp .neq 27 (.iface t v) .nilIface).run Tryd.prog w = .ok (.bool true) w := by simp [go_sem]
theorem ErrIs.iface {B : Nat} {x at' : Int} {er : Value} {w : World} (h : ErrIs B x at' er w) (hx : x ≠ 0) : ∃ t v, er = .iface t v := by
  by_cases ha : at' < 0
  · exact ⟨_, _, (h.1 ha).trans (codeV_ne hx)⟩
  · obtain ⟨g, e, _⟩ := h.2 (by omega)
    exact ⟨_, _, e⟩

set_option maxRecDepth 100000 in
set_option maxHeartbeats 2000000 in
theorem refutes_any (a : Option Addr) (n cap : Nat) (ls : List (Int × List (Int × Int))) (sa : Option Addr) (sn scap : Nat) (ss : List (List (Int × Int) × Int)) (w : World) (h : Given w.heap.size w a n ls sa sn ss) (x at' : Int) (L : List (Int × List (Int × Int))) (hL : LinesIs ls ss x at' L) :
    Calls Tryd.prog 12 #[.slice a n cap, .slice sa sn scap] w (RefEnd w.heap.size (refX x L) at' w) := by
  have HLN := Lib.hid (lines_any a n cap ls sa sn scap ss w h x at' L hL)
  have n1 := fun t v W => Tryd.neIface t v W
  by_cases hx : x = 0
  · obtain ⟨rfl, _, _, _, hLm⟩ := hL.zero hx
    subst hx
    have HX0 : Hid (hasR L = true → refX 0 L = 0) := fun h => by unfold refX; rw [if_pos rfl, if_pos h]
    have HX8 : Hid (hasR L = false → refX 0 L = 8) := fun h => by unfold refX; rw [if_pos rfl, if_neg (by rw [h]; decide)]
    generalize refX 0 L = y at HX0 HX8
    clear h hL
    go_enter Tryd.func12, Tryd.ntmps12
    go_wp2_with fail
    refine HLN.out.mono ?_
    rintro e w1 ⟨v, er, xs, rfl, hrow, hfs, her, hb1⟩
    rw [her.1 (by omega), codeV_zero]
    obtain ⟨la, lcap, rfl, hll⟩ := hrow.llies
    rw [hfs] at hll
    have hxl : L.length = xs.length := by rw [← hfs, lforms_len]
    have HB := Lib.hid hb1
    have HLL := Lib.hid hll
    have hxm : xs.length ≤ 8192 := by omega
    have HXL := Lib.hid hxl
    clear hrow hfs her hb1 hll HLN hxl
    go_wp2_with fail
    go_loopw [20] (fun i wr => ∃ (k : Nat), k ≤ xs.length ∧ i = .int .i64 k ∧ Hid (∀ j, j < k → ¬ ((L.getD j (0, [])).2.length = 0 ∧ 0 < (L.getD j (0, [])).1)) ∧ Hid (Below w1.heap.size w1 wr)) (fun i _ => xs.length - (intOf i).toNat)
    case atStart => exact ⟨0, Nat.zero_le _, rfl, fun j hj => absurd hj (Nat.not_lt_zero _), Below.refl _ _⟩
    case round =>
      obtain ⟨k, hk, rfl, hno, hb⟩ := hrel
      by_cases hlt : k < xs.length
      · obtain ⟨b, off, ta, tcap, rfl, hblt, c0, c1, _⟩ := (HLL.out.below hb.out) k (by rw [HXL.out]; exact hlt)
        have hyes : (L.getD k (0, [])).2.length = 0 ∧ 0 < (L.getD k (0, [])).1 → y = 0 := fun h => HX0.out (hasR_at (by rw [HXL.out]; exact hlt) h)
        have hnot : ¬ ((L.getD k (0, [])).2.length = 0 ∧ 0 < (L.getD k (0, [])).1) → Hid (∀ j, j < k + 1 → ¬ ((L.getD j (0, [])).2.length = 0 ∧ 0 < (L.getD j (0, [])).1)) := fun h j hj => by
          by_cases e : j = k
          · subst e; exact h
          · exact hno.out j (by omega)
        generalize (L.getD k (0, [])).1 = C at c0 hyes hnot
        generalize (L.getD k (0, [])).2.length = m at c1 hyes hnot
        have HBA : Hid (Below w1.heap.size w1 (wr.alloc (.cells #[.int .i64 C, .slice ta m tcap] 49))) := hb.out.alloc hb.out.size _
        by_cases hm : m = 0
        · subst hm
          by_cases hC : 0 < C
          · obtain rfl := hyes ⟨rfl, hC⟩
            clear hyes hnot
            go_wp2_with fail
            go_ret
            exact ⟨_, rfl, ⟨fun _ => rfl, fun h => absurd h (by omega)⟩, HB.out.trans (HBA.out.mono HB.out.size)⟩
          · have HN := hnot (fun h => hC h.2)
            clear hyes hnot
            go_wp2_with fail
            refine ⟨⟨k + 1, by omega, by go_num, HN, HBA⟩, by simp [intOf]; omega⟩
        · have HN := hnot (fun h => hm h.1)
          have hm' : ¬ ((m : Int) = 0) := by omega
          clear hyes hnot
          go_wp2_with fail
          refine ⟨⟨k + 1, by omega, by go_num, HN, HBA⟩, by simp [intOf]; omega⟩
      · obtain rfl : k = xs.length := by omega
        obtain rfl := HX8.out (hasR_none (fun i hi => hno.out i (by rw [HXL.out] at hi; exact hi)))
        go_wp2_with fail
        go_ret
        exact ⟨_, rfl, ⟨fun _ => rfl, fun h => absurd h (by omega)⟩, HB.out.trans (hb.out.mono HB.out.size)⟩
  · have HX : Hid (refX x L = x) := if_neg hx
    generalize refX x L = y at HX
    clear h hL
    go_enter Tryd.func12, Tryd.ntmps12
    go_wp2_with fail
    refine HLN.out.mono ?_
    rintro e w1 ⟨v, er, xs, rfl, hrow, hfs, her, hb1⟩
    obtain ⟨t9, v9, rfl⟩ := her.iface hx
    have HE := Lib.hid her
    have HB := Lib.hid hb1
    clear her hb1 hrow hfs HLN
    go_wp2_with fail
    go_ret
    exact ⟨_, rfl, by rw [HX.out]; exact HE.out, HB.out⟩
end Go.Proofs.YtmjhjacbhflcpaaDoor

namespace Go.Proofs.YtmjhjacbhflcpaaDoor
open Go.RowKit Go.Maps

theorem heap_at (w : World) (o : Obj) (k : Nat) : (w.alloc o).heap[k]? = if k = w.heap.size then some o else w.heap[k]? := by
  by_cases h : k = w.heap.size
  · rw [if_pos h, h]; exact heap_alloc_new w o
  · rw [if_neg h]
    by_cases h2 : k < w.heap.size
    · exact Below.heap_alloc w o k h2
    · rw [Array.getElem?_eq_none (by simp; omega), Array.getElem?_eq_none (by omega)]
theorem sumOf_eq {l R : List (Int × Int)} (h : IsSum l R) : sumOf l = R := (sumOf_is l).unique h

def upLs : List (Int × List (Int × Int)) := [(-1, [(0, 1)]), (2, [(0, -1)])]
def upSs : List (List (Int × Int) × Int) := [([(0, 1), (1, 1)], 1)]
theorem up_sum : sumOf (tTo upLs [(0, 1), (1, 1)] 2) = [] := sumOf_eq ⟨List.Pairwise.nil, fun m hm => absurd hm List.not_mem_nil, fun v => by
  rw [show tTo upLs [(0, 1), (1, 1)] 2 = [(0, 1), (0, -1)] from rfl, coef_cons, coef_cons, coef_nil]
  by_cases h : (0 : Int) = v
  · rw [if_pos h, if_pos h]; decide
  · rw [if_neg h, if_neg h]; decide⟩
theorem up_tell : tellS upLs ([(0, 1), (1, 1)], 1) = 0 := by
  show tellK 2 (cTo upLs [(0, 1), (1, 1)] 2) 1 [(0, 1), (1, 1)] (sumOf (tTo upLs [(0, 1), (1, 1)] 2)) = 0
  rw [up_sum]; decide
theorem up_line : lineS upLs ([(0, 1), (1, 1)], 1) = (1, []) := by
  show (upI (cTo upLs [(0, 1), (1, 1)] 2) 1, divT 1 (sumOf (tTo upLs [(0, 1), (1, 1)] 2))) = _
  rw [up_sum]; decide
theorem up_lines : LinesIs upLs upSs 0 (-1) (lnL upLs upSs 1) := by
  refine .ok (by decide) (by decide) (fun i hi => ?_) (fun j hj => ?_)
  · match i, hi with
    | 0, _ => decide
    | 1, _ => decide
  · match j, hj with
    | 0, _ => exact up_tell
theorem up_ref : refX 0 (lnL upLs upSs 1) = 0 := by
  unfold refX
  rw [if_pos rfl, if_pos]
  show hasR (upLs ++ [lineS upLs ([(0, 1), (1, 1)], 1)]) = true
  rw [up_line]; decide
theorem none_lines : LinesIs [] [] 0 (-1) [] := .ok (by decide) (by decide) (fun i hi => absurd hi (Nat.not_lt_zero _)) (fun j hj => absurd hj (Nat.not_lt_zero _))

def upW (w : World) : World := ((((((w.alloc (.cells #[.int .i64 0, .int .i64 1] 46)).alloc (.cells #[.int .i64 (-1), .slice (some ⟨w.heap.size, 0, none⟩) 1 1] 49)).alloc (.cells #[.int .i64 0, .int .i64 (-1)] 46)).alloc (.cells #[.int .i64 2, .slice (some ⟨w.heap.size + 1 + 1, 0, none⟩) 1 1] 49)).alloc
  (.cells #[.int .i64 (-1), .slice (some ⟨w.heap.size, 0, none⟩) 1 1, .int .i64 2, .slice (some ⟨w.heap.size + 1 + 1, 0, none⟩) 1 1] 49)).alloc (.cells #[.int .i64 0, .int .i64 1, .int .i64 1, .int .i64 1] 41)).alloc (.cells #[.slice (some ⟨w.heap.size + 1 + 1 + 1 + 1 + 1, 0, none⟩) 2 2, .int .i64 1] 39)
theorem up_given (w : World) : Given (upW w).heap.size (upW w) (some ⟨w.heap.size + 1 + 1 + 1 + 1, 0, none⟩) 2 upLs (some ⟨w.heap.size + 1 + 1 + 1 + 1 + 1 + 1, 0, none⟩) 1 upSs := by
  have hz : (upW w).heap.size = w.heap.size + 7 := by simp [upW]
  have h0 : (upW w).heap[w.heap.size]? = some (.cells #[.int .i64 0, .int .i64 1] 46 (0, 0)) := (by simp only [upW, heap_at, World.size_alloc]; repeat (first | rw [if_pos trivial] | rw [if_pos (by omega)] | rw [if_neg (by omega)]))
  have h2 : (upW w).heap[w.heap.size + 1 + 1]? = some (.cells #[.int .i64 0, .int .i64 (-1)] 46 (0, 0)) := (by simp only [upW, heap_at, World.size_alloc]; repeat (first | rw [if_pos trivial] | rw [if_pos (by omega)] | rw [if_neg (by omega)]))
  have h4 : (upW w).heap[w.heap.size + 1 + 1 + 1 + 1]? = some (.cells #[.int .i64 (-1), .slice (some ⟨w.heap.size, 0, none⟩) 1 1, .int .i64 2, .slice (some ⟨w.heap.size + 1 + 1, 0, none⟩) 1 1] 49 (0, 0)) := (by simp only [upW, heap_at, World.size_alloc]; repeat (first | rw [if_pos trivial] | rw [if_pos (by omega)] | rw [if_neg (by omega)]))
  have h5 : (upW w).heap[w.heap.size + 1 + 1 + 1 + 1 + 1]? = some (.cells #[.int .i64 0, .int .i64 1, .int .i64 1, .int .i64 1] 41 (0, 0)) := (by simp only [upW, heap_at, World.size_alloc]; repeat (first | rw [if_pos trivial] | rw [if_pos (by omega)] | rw [if_neg (by omega)]))
  have h6 : (upW w).heap[w.heap.size + 1 + 1 + 1 + 1 + 1 + 1]? = some (.cells #[.slice (some ⟨w.heap.size + 1 + 1 + 1 + 1 + 1, 0, none⟩) 2 2, .int .i64 1] 39 (0, 0)) := (by simp only [upW, heap_at, World.size_alloc]; repeat (first | rw [if_pos trivial] | rw [if_pos (by omega)] | rw [if_neg (by omega)]))
  generalize upW w = W at hz h0 h2 h4 h5 h6 ⊢
  have hl0 : Lies W.heap.size W (some ⟨w.heap.size, 0, none⟩) [(0, 1)] := fun i hi => by
    match i, hi with
    | 0, _ => exact ⟨_, 0, rfl, by omega, (cell_of_row _ _ _ _ _ _ h0).trans rfl, (cell_of_row _ _ _ _ _ _ h0).trans rfl⟩
  have hl2 : Lies W.heap.size W (some ⟨w.heap.size + 1 + 1, 0, none⟩) [(0, -1)] := fun i hi => by
    match i, hi with
    | 0, _ => exact ⟨_, 0, rfl, by omega, (cell_of_row _ _ _ _ _ _ h2).trans rfl, (cell_of_row _ _ _ _ _ _ h2).trans rfl⟩
  have hl5 : Lies W.heap.size W (some ⟨w.heap.size + 1 + 1 + 1 + 1 + 1, 0, none⟩) [(0, 1), (1, 1)] := fun i hi => by
    match i, hi with
    | 0, _ => exact ⟨_, 0, rfl, by omega, (cell_of_row _ _ _ _ _ _ h5).trans rfl, (cell_of_row _ _ _ _ _ _ h5).trans rfl⟩
    | 1, _ => exact ⟨_, 0, rfl, by omega, (cell_of_row _ _ _ _ _ _ h5).trans rfl, (cell_of_row _ _ _ _ _ _ h5).trans rfl⟩
  refine ⟨rfl, fun i hi => ?_, fun i hi => ?_, rfl, fun i hi => ?_, by omega, by omega⟩
  · match i, hi with
    | 0, _ => exact ⟨_, 0, _, _, rfl, by omega, (cell_of_row _ _ _ _ _ _ h4).trans rfl, (cell_of_row _ _ _ _ _ _ h4).trans rfl, hl0⟩
    | 1, _ => exact ⟨_, 0, _, _, rfl, by omega, (cell_of_row _ _ _ _ _ _ h4).trans rfl, (cell_of_row _ _ _ _ _ _ h4).trans rfl, hl2⟩
  · match i, hi with
    | 0, _ => decide
    | 1, _ => decide
  · match i, hi with
    | 0, _ => exact ⟨_, 0, _, _, rfl, by omega, by decide, (cell_of_row _ _ _ _ _ _ h6).trans rfl, (cell_of_row _ _ _ _ _ _ h6).trans rfl, hl5⟩
theorem none_given (w : World) : Given w.heap.size w none 0 [] none 0 [] :=
  ⟨rfl, fun i hi => absurd hi (Nat.not_lt_zero _), fun i hi => absurd hi (Nat.not_lt_zero _), rfl, fun i hi => absurd hi (Nat.not_lt_zero _), by omega, by omega⟩

/-- The document's example holds. -/
def UpSaid4 : Prop := ∀ w : World, Calls Tryd.prog 6 #[] w fun e w' => e = .returned (.bool true) ∧ Below w.heap.size w w'
set_option maxRecDepth 100000 in
set_option maxHeartbeats 1000000 in
theorem up_said4 : UpSaid4 := fun w => by
  have HR := Lib.hid (refutes_any _ 2 2 upLs _ 1 1 upSs (upW w) (up_given w) 0 (-1) _ up_lines)
  rw [up_ref] at HR
  have HR2 := Lib.hid (fun W => refutes_any none 0 0 [] none 0 0 [] W (none_given W) 0 (-1) [] none_lines)
  rw [show refX 0 [] = 8 from rfl] at HR2
  have HB : Hid (Below w.heap.size w (upW w)) := by
    have hb := (Below.refl w.heap.size w)
    show Below _ _ _
    unfold upW
    refine Below.alloc (Below.alloc (Below.alloc (Below.alloc (Below.alloc (Below.alloc (Below.alloc hb ?_ _) ?_ _) ?_ _) ?_ _) ?_ _) ?_ _) ?_ _ <;> simp <;> omega
  have e1 := fun W => Tryd.eqCode 8 8 W
  go_enter Tryd.func6, Tryd.ntmps6
  go_wp2_with fail
  refine HR.out.mono ?_
  rintro e w1 ⟨er, rfl, her, hb1⟩
  rw [her.1 (by omega), codeV_zero]
  have HB1 := Lib.hid (HB.out.trans (hb1.mono HB.out.size))
  clear her hb1
  go_wp2_with fail
  refine (HR2.out _).mono ?_
  rintro e w2 ⟨er, rfl, her, hb2⟩
  rw [her.1 (by omega), codeV_ne (by decide)]
  have HB2 := Lib.hid (HB1.out.trans (hb2.mono HB1.out.size))
  clear her hb2
  go_wp2_with fail
  go_ret
  exact ⟨rfl, HB2.out⟩
end Go.Proofs.YtmjhjacbhflcpaaDoor

namespace Go.Proofs.YtmjhjacbhflcpaaDoor
open Go.RowKit Go.Extern.Stop Go.Stop Go.Extern

theorem Tryd.valueOfPP (t : Addr) (w : World) : (ReflectliteValue.unpack (.iface 63 (.pointer (some t)))).run Tryd.prog w
    = .ok (.agg #[.pointer (some ⟨1, 63, none⟩), .pointer (some ⟨w.heap.size, 0, none⟩), .int .u64 150]) (w.alloc (.cells #[.pointer (some t)] 63)) := by kernel_rfl
theorem Tryd.typePP (a : Addr) (w : World) : (ReflectliteValue.methodAny (ReflectliteValue.valueError "reflectlite.Value.Type" 0) (fun t _ _ _ => ReflectliteType.toType t) #[.agg #[.pointer (some ⟨1, 63, none⟩), .pointer (some a), .int .u64 150]]).run Tryd.prog w
    = .ok (.iface 93 (.agg #[.pointer (some ⟨1, 63, none⟩)])) w := by kernel_rfl
theorem Tryd.methodKind (h : Value) (w : World) : (Go.method 260 93 (.agg #[h]) "Kind").run Tryd.prog w = .ok (80, h) w := by kernel_rfl
theorem Tryd.kindPP (w : World) : ((ReflectliteType.abiMethod fun t => (fun a : Nat => Value.int IntKind.u8 (a : Int)) <$> Rtype.kind t) #[.pointer (some ⟨1, 63, none⟩)]).run Tryd.prog w = .ok (.int .u8 22) w := by kernel_rfl
theorem Tryd.kindP (w : World) : ((ReflectliteType.abiMethod fun t => (fun a : Nat => Value.int IntKind.u8 (a : Int)) <$> Rtype.kind t) #[.pointer (some ⟨1, 51, none⟩)]).run Tryd.prog w = .ok (.int .u8 22) w := by kernel_rfl
theorem rlm (z : Sem Value) (f : TypeId → Addr → Nat → Nat → Sem Value) (v : Value) :
    ReflectliteValue.method z f #[v] = (do match ← ReflectliteValue.parts v with | none => z | some (t, a, fl) => f t a fl (fl % 32)) := rfl
theorem Tryd.partsPP (a : Addr) (w : World) : (ReflectliteValue.parts (.agg #[.pointer (some ⟨1, 63, none⟩), .pointer (some a), .int .u64 150])).run Tryd.prog w = .ok (some (63, a, 150)) w := by kernel_rfl
theorem Tryd.isNilPP (a p : Addr) (W : World) (ha : W.cell? a = some (.pointer (some p))) :
    (ReflectliteValue.method (ReflectliteValue.valueError "reflectlite.Value.IsNil" 0) ReflectliteValue.isNil #[.agg #[.pointer (some ⟨1, 63, none⟩), .pointer (some a), .int .u64 150]]).run Tryd.prog W = .ok (.bool false) W := by
  rw [rlm]
  simp only [Sem.run_bind, Tryd.partsPP, Result.andThen]
  simp [ReflectliteValue.isNil, loadVar, isAgg, underlying, Tryd.underlying63, ha, Result.andThen]
theorem Tryd.methodElem (h : Value) (w : World) : (Go.method 260 93 (.agg #[h]) "Elem").run Tryd.prog w = .ok (92, .agg #[h]) w := by kernel_rfl
theorem Tryd.methodImplements (h : Value) (w : World) : (Go.method 260 93 (.agg #[h]) "Implements").run Tryd.prog w = .ok (93, .agg #[h]) w := by kernel_rfl
theorem Tryd.methodAssignableTo (h : Value) (w : World) : (Go.method 260 93 (.agg #[h]) "AssignableTo").run Tryd.prog w = .ok (90, .agg #[h]) w := by kernel_rfl
theorem Tryd.methodComparable (h : Value) (w : World) : (Go.method 260 93 (.agg #[h]) "Comparable").run Tryd.prog w = .ok (91, .agg #[h]) w := by kernel_rfl
theorem Tryd.elemPP (w : World) : (ReflectliteType.method ReflectliteType.elem #[.agg #[.pointer (some ⟨1, 63, none⟩)]]).run Tryd.prog w = .ok (.iface 93 (.agg #[.pointer (some ⟨1, 51, none⟩)])) w := by kernel_rfl
theorem Tryd.implementsP (w : World) : (ReflectliteType.relation "Implements" ReflectliteType.implements_ #[.agg #[.pointer (some ⟨1, 51, none⟩)], .iface 93 (.agg #[.pointer (some ⟨1, 27, none⟩)])]).run Tryd.prog w = .ok (.bool true) w := by kernel_rfl
theorem Tryd.typeOfP (v : Value) (w : World) : (ReflectliteType.typeOf #[.iface 51 v]).run Tryd.prog w = .ok (.iface 93 (.agg #[.pointer (some ⟨1, 51, none⟩)])) w := by kernel_rfl
theorem Tryd.typeOfC (v : Value) (w : World) : (ReflectliteType.typeOf #[.iface 42 v]).run Tryd.prog w = .ok (.iface 93 (.agg #[.pointer (some ⟨1, 42, none⟩)])) w := by kernel_rfl
theorem Tryd.comparableC (w : World) : ((ReflectliteType.method fun t => do Rtype.noPackHeld "Comparable" t; pure (.bool (← typeInfo t).comparable)) #[.agg #[.pointer (some ⟨1, 42, none⟩)]]).run Tryd.prog w = .ok (.bool true) w := by kernel_rfl
theorem Tryd.assignableP (w : World) : (ReflectliteType.relation "AssignableTo" ReflectliteType.assignableTo #[.agg #[.pointer (some ⟨1, 51, none⟩)], .iface 93 (.agg #[.pointer (some ⟨1, 51, none⟩)])]).run Tryd.prog w = .ok (.bool true) w := by kernel_rfl
theorem Tryd.valueOfP (e : Addr) (w : World) : (ReflectliteValue.unpack (.iface 51 (.pointer (some e)))).run Tryd.prog w
    = .ok (.agg #[.pointer (some ⟨1, 51, none⟩), .pointer (some ⟨w.heap.size, 0, none⟩), .int .u64 150]) (w.alloc (.cells #[.pointer (some e)] 51)) := by kernel_rfl
theorem Tryd.elemOfPP (w : World) : (Rtype.elem? 63).run Tryd.prog w = .ok (some 51) w := by kernel_rfl
theorem Tryd.mkP (p : Addr) (w : World) : (ReflectliteValue.mk 51 p ReflectliteValue.flagAddr).run Tryd.prog w = .ok (.agg #[.pointer (some ⟨1, 51, none⟩), .pointer (some p), .int .u64 406]) w := by kernel_rfl
theorem Tryd.elemVPP (a p : Addr) (W : World) (ha : W.cell? a = some (.pointer (some p))) :
    (ReflectliteValue.method (ReflectliteValue.valueError "reflectlite.Value.Elem" 0) ReflectliteValue.elem #[.agg #[.pointer (some ⟨1, 63, none⟩), .pointer (some a), .int .u64 150]]).run Tryd.prog W
      = .ok (.agg #[.pointer (some ⟨1, 51, none⟩), .pointer (some p), .int .u64 406]) W := by
  rw [rlm]
  simp only [Sem.run_bind, Tryd.partsPP, Result.andThen]
  simp [ReflectliteValue.elem, loadVar, isAgg, underlying, Tryd.underlying63, ha, Result.andThen, Tryd.elemOfPP, Tryd.mkP]
theorem rls (v x : Value) : ReflectliteValue.set #[v, x] = (do
    let (some (dst, a, fl), some (src, b, _)) := (← ReflectliteValue.parts v, ← ReflectliteValue.parts x)
      | unsupported (.noEntry "extern/(internal/reflectlite.Value).Set.zeroValue")
    if fl / ReflectliteValue.flagAddr % 2 == 0 then unsupported (.noEntry "extern/(internal/reflectlite.Value).Set.unaddressable")
    let val ← loadVar src b
    if ← Rtype.directlyAssignable dst src then storeVar dst a val
    else if ← Rtype.implements dst src then
      if (← Rtype.kind src) == 20 then
        match val with
        | .nilIface => unsupported (.noEntry "extern/reflectlite: a nil value of one interface type handed on as a value of another")
        | _ => storeVar dst a val
      else storeVar dst a (.iface src val)
    else panicString ("reflectlite.Set: value of type " ++ (← Rtype.spelt src) ++ " is not assignable to type " ++ (← Rtype.spelt dst))
    pure (.tuple #[])) := rfl
theorem Tryd.partsPa (a : Addr) (w : World) : (ReflectliteValue.parts (.agg #[.pointer (some ⟨1, 51, none⟩), .pointer (some a), .int .u64 406])).run Tryd.prog w = .ok (some (51, a, 406)) w := by kernel_rfl
theorem Tryd.partsP (a : Addr) (w : World) : (ReflectliteValue.parts (.agg #[.pointer (some ⟨1, 51, none⟩), .pointer (some a), .int .u64 150])).run Tryd.prog w = .ok (some (51, a, 150)) w := by kernel_rfl
theorem Tryd.directP (w : World) : (Rtype.directlyAssignable 51 51).run Tryd.prog w = .ok true w := by kernel_rfl
theorem Tryd.setP (ta b e : Addr) (old : Value) (W : World) (hb : W.cell? b = some (.pointer (some e))) (ht : W.cell? ta = some old) (hf : W.frozen? ta = false) :
    (ReflectliteValue.set #[.agg #[.pointer (some ⟨1, 51, none⟩), .pointer (some ta), .int .u64 406], .agg #[.pointer (some ⟨1, 51, none⟩), .pointer (some b), .int .u64 150]]).run Tryd.prog W
      = .ok (.tuple #[]) (W.setCell ta (.pointer (some e))) := by
  rw [rls]
  simp only [Sem.run_bind, Tryd.partsPa, Tryd.partsP, Result.andThen]
  simp [ReflectliteValue.flagAddr, loadVar, isAgg, underlying, Tryd.underlying51, hb, Result.andThen, Tryd.directP, storeVar, Value.cells, storeCells, Addr.add]
  rw [run_store Tryd.prog W ta _ _ (by rfl)]
  simp [ht, hf]
end Go.Proofs.YtmjhjacbhflcpaaDoor
