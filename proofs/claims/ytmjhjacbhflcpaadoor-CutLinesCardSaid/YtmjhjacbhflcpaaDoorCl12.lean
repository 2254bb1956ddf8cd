/- The document's example of layer 4; the document's Light. The document's Light. The document's Same of lists. errors.As at a place for a *api.Spot. -/
import Derived.Test.YtmjhjacbhflcpaaDoorCl10
import Derived.Deep.RegionWith
import Derived.Test.YtmjhjacbhflcpaaDoorProg
import Derived.WalkKit
import Derived.LaidEql
import Derived.Stop.Asserts
import Derived.RowKitTokens
set_option linter.unusedVariables false
set_option linter.unusedSimpArgs false
namespace Go.Proofs.YtmjhjacbhflcpaaDoor
open Go.RowKit Go.Maps

theorem heap_at (w : World) (o : Obj) (k : Nat) : (w.alloc o).heap[k]? = if k = w.heap.size then some o else w.heap[k]? := by
  by_cases h : k = w.heap.size
  · rw [if_pos h, h]; exact heap_alloc_new w o
  · rw [if_neg h]
    by_cases h2 : k < w.heap.size
    · exact Below.heap_alloc w o k h2
    · rw [Array.getElem?_eq_none (by simp; omega), Array.getElem?_eq_none (by omega)]
theorem sumOf_eq {l R : List (Int × Int)} (h : IsSum l R) : sumOf l = R := (sumOf_is l).unique h

def upLs : List (Int × List (Int × Int)) := [(-1, [(0, 1)]), (2, [(0, -1)])]
def upSs : List (List (Int × Int) × Int) := [([(0, 1), (1, 1)], 1)]
theorem up_sum : sumOf (tTo upLs [(0, 1), (1, 1)] 2) = [] := sumOf_eq ⟨List.Pairwise.nil, fun m hm => absurd hm List.not_mem_nil, fun v => by
  rw [show tTo upLs [(0, 1), (1, 1)] 2 = [(0, 1), (0, -1)] from rfl, coef_cons, coef_cons, coef_nil]
  by_cases h : (0 : Int) = v
  · rw [if_pos h, if_pos h]; decide
  · rw [if_neg h, if_neg h]; decide⟩
theorem up_tell : tellS upLs ([(0, 1), (1, 1)], 1) = 0 := by
  show tellK 2 (cTo upLs [(0, 1), (1, 1)] 2) 1 [(0, 1), (1, 1)] (sumOf (tTo upLs [(0, 1), (1, 1)] 2)) = 0
  rw [up_sum]; decide
theorem up_line : lineS upLs ([(0, 1), (1, 1)], 1) = (1, []) := by
  show (upI (cTo upLs [(0, 1), (1, 1)] 2) 1, divT 1 (sumOf (tTo upLs [(0, 1), (1, 1)] 2))) = _
  rw [up_sum]; decide
theorem up_lines : LinesIs upLs upSs 0 (-1) (lnL upLs upSs 1) := by
  refine .ok (by decide) (by decide) (fun i hi => ?_) (fun j hj => ?_)
  · match i, hi with
    | 0, _ => decide
    | 1, _ => decide
  · match j, hj with
    | 0, _ => exact up_tell
theorem up_ref : refX 0 (lnL upLs upSs 1) = 0 := by
  unfold refX
  rw [if_pos rfl, if_pos]
  show hasR (upLs ++ [lineS upLs ([(0, 1), (1, 1)], 1)]) = true
  rw [up_line]; decide
theorem none_lines : LinesIs [] [] 0 (-1) [] := .ok (by decide) (by decide) (fun i hi => absurd hi (Nat.not_lt_zero _)) (fun j hj => absurd hj (Nat.not_lt_zero _))

def upW (w : World) : World := ((((((w.alloc (.cells #[.int .i64 0, .int .i64 1] 46)).alloc (.cells #[.int .i64 (-1), .slice (some ⟨w.heap.size, 0, none⟩) 1 1] 49)).alloc (.cells #[.int .i64 0, .int .i64 (-1)] 46)).alloc (.cells #[.int .i64 2, .slice (some ⟨w.heap.size + 1 + 1, 0, none⟩) 1 1] 49)).alloc
  (.cells #[.int .i64 (-1), .slice (some ⟨w.heap.size, 0, none⟩) 1 1, .int .i64 2, .slice (some ⟨w.heap.size + 1 + 1, 0, none⟩) 1 1] 49)).alloc (.cells #[.int .i64 0, .int .i64 1, .int .i64 1, .int .i64 1] 41)).alloc (.cells #[.slice (some ⟨w.heap.size + 1 + 1 + 1 + 1 + 1, 0, none⟩) 2 2, .int .i64 1] 39)
theorem up_given (w : World) : Given (upW w).heap.size (upW w) (some ⟨w.heap.size + 1 + 1 + 1 + 1, 0, none⟩) 2 upLs (some ⟨w.heap.size + 1 + 1 + 1 + 1 + 1 + 1, 0, none⟩) 1 upSs := by
  have hz : (upW w).heap.size = w.heap.size + 7 := by simp [upW]
  have h0 : (upW w).heap[w.heap.size]? = some (.cells #[.int .i64 0, .int .i64 1] 46 (0, 0)) := (by simp only [upW, heap_at, World.size_alloc]; repeat (first | rw [if_pos trivial] | rw [if_pos (by omega)] | rw [if_neg (by omega)]))
  have h2 : (upW w).heap[w.heap.size + 1 + 1]? = some (.cells #[.int .i64 0, .int .i64 (-1)] 46 (0, 0)) := (by simp only [upW, heap_at, World.size_alloc]; repeat (first | rw [if_pos trivial] | rw [if_pos (by omega)] | rw [if_neg (by omega)]))
  have h4 : (upW w).heap[w.heap.size + 1 + 1 + 1 + 1]? = some (.cells #[.int .i64 (-1), .slice (some ⟨w.heap.size, 0, none⟩) 1 1, .int .i64 2, .slice (some ⟨w.heap.size + 1 + 1, 0, none⟩) 1 1] 49 (0, 0)) := (by simp only [upW, heap_at, World.size_alloc]; repeat (first | rw [if_pos trivial] | rw [if_pos (by omega)] | rw [if_neg (by omega)]))
  have h5 : (upW w).heap[w.heap.size + 1 + 1 + 1 + 1 + 1]? = some (.cells #[.int .i64 0, .int .i64 1, .int .i64 1, .int .i64 1] 41 (0, 0)) := (by simp only [upW, heap_at, World.size_alloc]; repeat (first | rw [if_pos trivial] | rw [if_pos (by omega)] | rw [if_neg (by omega)]))
  have h6 : (upW w).heap[w.heap.size + 1 + 1 + 1 + 1 + 1 + 1]? = some (.cells #[.slice (some ⟨w.heap.size + 1 + 1 + 1 + 1 + 1, 0, none⟩) 2 2, .int .i64 1] 39 (0, 0)) := (by simp only [upW, heap_at, World.size_alloc]; repeat (first | rw [if_pos trivial] | rw [if_pos (by omega)] | rw [if_neg (by omega)]))
  generalize upW w = W at hz h0 h2 h4 h5 h6 ⊢
  have hl0 : Lies W.heap.size W (some ⟨w.heap.size, 0, none⟩) [(0, 1)] := fun i hi => by
    match i, hi with
    | 0, _ => exact ⟨_, 0, rfl, by omega, (cell_of_row _ _ _ _ _ _ h0).trans rfl, (cell_of_row _ _ _ _ _ _ h0).trans rfl⟩
  have hl2 : Lies W.heap.size W (some ⟨w.heap.size + 1 + 1, 0, none⟩) [(0, -1)] := fun i hi => by
    match i, hi with
    | 0, _ => exact ⟨_, 0, rfl, by omega, (cell_of_row _ _ _ _ _ _ h2).trans rfl, (cell_of_row _ _ _ _ _ _ h2).trans rfl⟩
  have hl5 : Lies W.heap.size W (some ⟨w.heap.size + 1 + 1 + 1 + 1 + 1, 0, none⟩) [(0, 1), (1, 1)] := fun i hi => by
    match i, hi with
    | 0, _ => exact ⟨_, 0, rfl, by omega, (cell_of_row _ _ _ _ _ _ h5).trans rfl, (cell_of_row _ _ _ _ _ _ h5).trans rfl⟩
    | 1, _ => exact ⟨_, 0, rfl, by omega, (cell_of_row _ _ _ _ _ _ h5).trans rfl, (cell_of_row _ _ _ _ _ _ h5).trans rfl⟩
  refine ⟨rfl, fun i hi => ?_, fun i hi => ?_, rfl, fun i hi => ?_, by omega, by omega⟩
  · match i, hi with
    | 0, _ => exact ⟨_, 0, _, _, rfl, by omega, (cell_of_row _ _ _ _ _ _ h4).trans rfl, (cell_of_row _ _ _ _ _ _ h4).trans rfl, hl0⟩
    | 1, _ => exact ⟨_, 0, _, _, rfl, by omega, (cell_of_row _ _ _ _ _ _ h4).trans rfl, (cell_of_row _ _ _ _ _ _ h4).trans rfl, hl2⟩
  · match i, hi with
    | 0, _ => decide
    | 1, _ => decide
  · match i, hi with
    | 0, _ => exact ⟨_, 0, _, _, rfl, by omega, by decide, (cell_of_row _ _ _ _ _ _ h6).trans rfl, (cell_of_row _ _ _ _ _ _ h6).trans rfl, hl5⟩
theorem none_given (w : World) : Given w.heap.size w none 0 [] none 0 [] :=
  ⟨rfl, fun i hi => absurd hi (Nat.not_lt_zero _), fun i hi => absurd hi (Nat.not_lt_zero _), rfl, fun i hi => absurd hi (Nat.not_lt_zero _), by omega, by omega⟩

/-- The document's example holds. -/
def UpSaid4 : Prop := ∀ w : World, Calls Tryd.prog 6 #[] w fun e w' => e = .returned (.bool true) ∧ Below w.heap.size w w'
set_option maxRecDepth 100000 in
set_option maxHeartbeats 1000000 in
theorem up_said4 : UpSaid4 := fun w => by
  have HR := Lib.hid (refutes_any _ 2 2 upLs _ 1 1 upSs (upW w) (up_given w) 0 (-1) _ up_lines)
  rw [up_ref] at HR
  have HR2 := Lib.hid (fun W => refutes_any none 0 0 [] none 0 0 [] W (none_given W) 0 (-1) [] none_lines)
  rw [show refX 0 [] = 8 from rfl] at HR2
  have HB : Hid (Below w.heap.size w (upW w)) := by
    have hb := (Below.refl w.heap.size w)
    show Below _ _ _
    unfold upW
    refine Below.alloc (Below.alloc (Below.alloc (Below.alloc (Below.alloc (Below.alloc (Below.alloc hb ?_ _) ?_ _) ?_ _) ?_ _) ?_ _) ?_ _) ?_ _ <;> simp <;> omega
  have e1 := fun W => Tryd.eqCode 8 8 W
  go_enter Tryd.func6, Tryd.ntmps6
  go_wp2_with fail
  refine HR.out.mono ?_
  rintro e w1 ⟨er, rfl, her, hb1⟩
  rw [her.1 (by omega), codeV_zero]
  have HB1 := Lib.hid (HB.out.trans (hb1.mono HB.out.size))
  clear her hb1
  go_wp2_with fail
  refine (HR2.out _).mono ?_
  rintro e w2 ⟨er, rfl, her, hb2⟩
  rw [her.1 (by omega), codeV_ne (by decide)]
  have HB2 := Lib.hid (HB1.out.trans (hb2.mono HB1.out.size))
  clear her hb2
  go_wp2_with fail
  go_ret
  exact ⟨rfl, HB2.out⟩
end Go.Proofs.YtmjhjacbhflcpaaDoor

namespace Go.Proofs.YtmjhjacbhflcpaaDoor
open Go.RowKit Go.Maps

def SomeBool (w : World) (e : Ending) (w' : World) : Prop := ∃ b, e = .returned (.bool b) ∧ w = w'
set_option maxRecDepth 100000 in
set_option maxHeartbeats 1000000 in
theorem light_any (a : Option Addr) (n cap : Nat) (ls : List (Int × List (Int × Int))) (sa : Option Addr) (sn scap : Nat) (ss : List (List (Int × Int) × Int)) (w : World) (h : Given w.heap.size w a n ls sa sn ss) :
    Calls Tryd.prog 7 #[.slice a n cap, .slice sa sn scap] w (SomeBool w) := by
  have HG := Lib.hid h
  have hnm := h.nm
  have hsm := h.sm
  clear h
  by_cases hA : (100 < n ∧ n ≤ 4096) ∨ (100 < sn ∧ sn ≤ 4096)
  · by_cases h1 : 100 < n
    · by_cases h2 : n ≤ 4096
      · go_enter Tryd.func7, Tryd.ntmps7
        go_wp2_with fail
        go_ret
        exact ⟨_, rfl, rfl⟩
      · have h3 : 100 < sn := by omega
        have h4 : sn ≤ 4096 := by omega
        go_enter Tryd.func7, Tryd.ntmps7
        go_wp2_with fail
        go_ret
        exact ⟨_, rfl, rfl⟩
    · have h3 : 100 < sn := by omega
      have h4 : sn ≤ 4096 := by omega
      go_enter Tryd.func7, Tryd.ntmps7
      go_wp2_with fail
      go_ret
      exact ⟨_, rfl, rfl⟩
  · have key : ∀ (P1 : n ≤ 100 ∨ 4096 < n) (P2 : sn ≤ 100 ∨ 4096 < sn), Calls Tryd.prog 7 #[.slice a n cap, .slice sa sn scap] w (SomeBool w) := by
      intro P1 P2
      go_enter Tryd.func7, Tryd.ntmps7
      rcases P1 with P1 | P1 <;> rcases P2 with P2 | P2
      all_goals
        have Q1 : Hid (n ≤ 100 ∨ 4096 < n) := by show _ ∨ _; omega
        have Q2 : Hid (sn ≤ 100 ∨ 4096 < sn) := by show _ ∨ _; omega
        go_wp2_with fail
        clear P1 P2
        go_loopw [5] (fun i wr => ∃ (k : Nat), k ≤ n ∧ k ≤ 100 ∧ i = .int .i64 k ∧ wr = w) (fun i _ => 100 - (intOf i).toNat)
        case atStart => exact ⟨0, Nat.zero_le _, by omega, rfl, rfl⟩
        case round =>
          obtain ⟨k, hk, hk1, rfl, rfl⟩ := hrel
          by_cases hlt : k < n
          · by_cases hlt2 : k < 100
            · obtain ⟨b, off, ta, tcap, rfl, hblt, c0, c1, _⟩ := HG.out.ll k (by rw [HG.out.ln]; exact hlt)
              generalize (ls.getD k (0, [])).2.length = m at c1
              clear c0
              by_cases hm : 100 < m
              · go_wp2_with fail
                first | done | (go_ret; exact ⟨_, rfl, rfl⟩)
              · go_wp2_with fail
                first | done | (refine ⟨⟨k + 1, by omega, by omega, by go_num, trivial⟩, by simp [intOf]; omega⟩)
            · obtain ⟨w9, rfl⟩ : ∃ w9 : World, w9 = wr := ⟨_, rfl⟩
              go_wp2_with fail
              first
              | done
              | (go_loopw [6] (fun i wr' => ∃ (k : Nat), k ≤ sn ∧ k ≤ 100 ∧ i = .int .i64 k ∧ wr' = w9) (fun i _ => 100 - (intOf i).toNat)
                 case atStart => exact ⟨0, Nat.zero_le _, by omega, rfl, rfl⟩
                 case round =>
                   obtain ⟨k, hk, hk1, rfl, rfl⟩ := hrel
                   by_cases hlt : k < sn
                   · by_cases hlt2 : k < 100
                     · obtain ⟨b, off, ta, tcap, rfl, hblt, _, c0, c1, _⟩ := HG.out.sll k (by rw [HG.out.sl]; exact hlt)
                       generalize (ss.getD k ([], 0)).1.length = m at c0
                       clear c1
                       by_cases hm : 100 < m
                       · go_wp2_with fail
                         first | done | (go_ret; exact ⟨_, rfl, rfl⟩)
                       · go_wp2_with fail
                         first | done | (refine ⟨⟨k + 1, by omega, by omega, by go_num, trivial⟩, by simp [intOf]; omega⟩)
                     · go_wp2_with fail
                       first | done | (go_ret; exact ⟨_, rfl, rfl⟩)
                   · go_wp2_with fail
                     first | done | (go_ret; exact ⟨_, rfl, rfl⟩))
          · obtain ⟨w9, rfl⟩ : ∃ w9 : World, w9 = wr := ⟨_, rfl⟩
            go_wp2_with fail
            first
            | done
            | (go_loopw [6] (fun i wr' => ∃ (k : Nat), k ≤ sn ∧ k ≤ 100 ∧ i = .int .i64 k ∧ wr' = w9) (fun i _ => 100 - (intOf i).toNat)
               case atStart => exact ⟨0, Nat.zero_le _, by omega, rfl, rfl⟩
               case round =>
                 obtain ⟨k, hk, hk1, rfl, rfl⟩ := hrel
                 by_cases hlt : k < sn
                 · by_cases hlt2 : k < 100
                   · obtain ⟨b, off, ta, tcap, rfl, hblt, _, c0, c1, _⟩ := HG.out.sll k (by rw [HG.out.sl]; exact hlt)
                     generalize (ss.getD k ([], 0)).1.length = m at c0
                     clear c1
                     by_cases hm : 100 < m
                     · go_wp2_with fail
                       first | done | (go_ret; exact ⟨_, rfl, rfl⟩)
                     · go_wp2_with fail
                       first | done | (refine ⟨⟨k + 1, by omega, by omega, by go_num, trivial⟩, by simp [intOf]; omega⟩)
                   · go_wp2_with fail
                     first | done | (go_ret; exact ⟨_, rfl, rfl⟩)
                 · go_wp2_with fail
                   first | done | (go_ret; exact ⟨_, rfl, rfl⟩))
    exact key (by omega) (by omega)
end Go.Proofs.YtmjhjacbhflcpaaDoor

namespace Go.Proofs.YtmjhjacbhflcpaaDoor
open Go.RowKit Go.Maps

theorem forms_eq {ls ms : List (Int × List (Int × Int))} (hl : ls.length = ms.length) (h : ∀ i, i < ls.length → ls.getD i (0, []) = ms.getD i (0, [])) : ls = ms := by
  refine List.ext_getElem hl fun i h1 h2 => ?_
  have := h i h1
  simpa [List.getD_eq_getElem?_getD, h1, h2] using this
theorem same_iff {c d : Int} {l m : List (Int × Int)} : same c d l m = true ↔ (c, l) = (d, m) := by
  unfold same
  simp
set_option maxRecDepth 100000 in
set_option maxHeartbeats 2000000 in
theorem rsames_any (a : Option Addr) (n cap : Nat) (ls : List (Int × List (Int × Int))) (b : Option Addr) (m capb : Nat) (ms : List (Int × List (Int × Int))) (w : World) (hn : ls.length = n) (hm : ms.length = m) (hnm : n ≤ 9223372036854775807) (hmm : m ≤ 9223372036854775807)
    (hl : LLies w.heap.size w a ls) (hlm : ∀ i, i < n → (ls.getD i (0, [])).2.length ≤ 9223372036854775807) (hk : LLies w.heap.size w b ms) (hkm : ∀ i, i < m → (ms.getD i (0, [])).2.length ≤ 9223372036854775807) :
    Calls Tryd.prog 10 #[.slice a n cap, .slice b m capb] w fun e w' => e = .returned (.bool (decide (ls = ms))) ∧ Below w.heap.size w w' := by
  by_cases hnn : n = m
  · subst hnn
    have HS : Hid (∀ r : Bool, (r = true ↔ ∀ i, i < n → ls.getD i (0, []) = ms.getD i (0, [])) → decide (ls = ms) = r) := fun r hr => by
      rw [Bool.eq_iff_iff, hr]
      simp only [decide_eq_true_eq]
      exact ⟨fun h i _ => by rw [h], fun h => forms_eq (by omega) (fun i hi => h i (by omega))⟩
    have HN := Lib.hid hn
    have HM := Lib.hid hm
    have HL := Lib.hid hl
    have HK := Lib.hid hk
    have HLM := Lib.hid hlm
    have HKM := Lib.hid hkm
    generalize decide (ls = ms) = R at HS ⊢
    clear hn hm hl hk hlm hkm
    go_enter Tryd.func10, Tryd.ntmps10
    go_wp2_with fail
    go_loopw [5] (fun i wr => ∃ k : Nat, k ≤ n ∧ i = .int .i64 k ∧ Hid (∀ j, j < k → ls.getD j (0, []) = ms.getD j (0, [])) ∧ Hid (Below w.heap.size w wr)) (fun i _ => n - (intOf i).toNat)
    case atStart => exact ⟨0, Nat.zero_le _, rfl, fun j hj => absurd hj (Nat.not_lt_zero j), Below.refl _ _⟩
    case round =>
      obtain ⟨k, hk', rfl, hok, hb⟩ := hrel
      by_cases hlt : k < n
      · obtain ⟨ab, aoff, ta, tcap, rfl, hab, a1, a2, hla⟩ := HL.out k (by rw [HN.out]; exact hlt)
        obtain ⟨bb, boff, tb, tcapb, rfl, hbb, b1, b2, hlb⟩ := HK.out k (by rw [HM.out]; exact hlt)
        rw [← hb.out.cell (p := ⟨ab, _, none⟩) hab] at a1 a2
        rw [← hb.out.cell (p := ⟨bb, _, none⟩) hbb] at b1 b2
        have hl1 := HLM.out k hlt
        have hl2 := HKM.out k hlt
        have hdec : Hid (same (ls.getD k (0, [])).1 (ms.getD k (0, [])).1 (ls.getD k (0, [])).2 (ms.getD k (0, [])).2 = true ↔ ls.getD k (0, []) = ms.getD k (0, [])) := same_iff
        have HNO : Hid (ls.getD k (0, []) ≠ ms.getD k (0, []) → R = false) := fun h => HS.out false ⟨fun h => absurd h (by decide), fun h2 => absurd (h2 k hlt) h⟩
        have HYES : Hid (ls.getD k (0, []) = ms.getD k (0, []) → ∀ j, j < k + 1 → ls.getD j (0, []) = ms.getD j (0, [])) := fun h j hj => by
          by_cases e : j = k
          · subst e; exact h
          · exact hok.out j (by omega)
        obtain ⟨z1, hz1⟩ : ∃ z, z = ls.getD k (0, []) := ⟨_, rfl⟩
        obtain ⟨z2, hz2⟩ : ∃ z, z = ms.getD k (0, []) := ⟨_, rfl⟩
        rw [← hz1] at a1 a2 hla hl1 hdec HNO HYES
        rw [← hz2] at b1 b2 hlb hl2 hdec HNO HYES
        obtain ⟨c, t⟩ := z1
        obtain ⟨d, u⟩ := z2
        clear hz1 hz2
        simp only at a1 a2 b1 b2 hla hlb hl1 hl2
        have HC := Lib.hid (fun W (hb : Below w.heap.size w W) => same_any c d ta tb t.length u.length tcap tcapb t u W rfl rfl hl1 hl2 ((hla.below hb).mono hb.size) ((hlb.below hb).mono hb.size))
        have HBD : Hid (Below w.heap.size w wr.drew) := hb.out.drew
        clear hla hlb hl1 hl2
        by_cases e : same c d t u = true
        · rw [e] at HC
          have HY : Hid (∀ j, j < k + 1 → ls.getD j (0, []) = ms.getD j (0, [])) := HYES.out (hdec.out.1 e)
          clear e HNO HYES hdec
          go_wp2_with fail
          go_region_with (go_at_call 20; refine (HC.out _ HBD.out).mono ?_; rintro e w4 ⟨rfl, hb4⟩; have HB4 := Lib.hid (HBD.out.trans (hb4.mono HBD.out.size)); clear hb4)
          all_goals
            clear a1 a2 b1 b2
            go_wp2_with fail
            refine ⟨⟨k + 1, by omega, by go_num, HY, HB4⟩, by simp [intOf]; omega⟩
        · have HF := Lib.hid (HNO.out (fun h => e (hdec.out.2 h)))
          rw [Bool.not_eq_true] at e
          rw [e] at HC
          clear e HNO HYES hdec
          go_wp2_with fail
          go_region_with (go_at_call 20; refine (HC.out _ HBD.out).mono ?_; rintro e w4 ⟨rfl, hb4⟩; have HB4 := Lib.hid (HBD.out.trans (hb4.mono HBD.out.size)); clear hb4)
          all_goals
            clear a1 a2 b1 b2
            go_wp2_with fail
            go_ret
            exact ⟨ret_bool HF.out.symm, HB4.out⟩
      · have HF := Lib.hid (HS.out true ⟨fun _ i hi => hok.out i (by omega), fun _ => rfl⟩)
        go_wp2_with fail
        go_ret
        exact ⟨ret_bool HF.out.symm, hb.out⟩
  · have hnn' : ((n : Int) != (m : Int)) = true := by simp; omega
    have HS : Hid (decide (ls = ms) = false) := decide_eq_false (fun h => hnn (by rw [← hn, ← hm, h]))
    clear hn hm hl hk
    go_enter Tryd.func10, Tryd.ntmps10
    go_wp2_with fail
    go_ret
    exact ⟨ret_bool HS.out.symm, Below.refl _ _⟩
end Go.Proofs.YtmjhjacbhflcpaaDoor

namespace Go.Proofs.YtmjhjacbhflcpaaDoor
open Go.RowKit Go.Extern.Stop Go.Stop Go.Extern

theorem Tryd.valueOfPP (t : Addr) (w : World) : (ReflectliteValue.unpack (.iface 63 (.pointer (some t)))).run Tryd.prog w
    = .ok (.agg #[.pointer (some ⟨1, 63, none⟩), .pointer (some ⟨w.heap.size, 0, none⟩), .int .u64 150]) (w.alloc (.cells #[.pointer (some t)] 63)) := by kernel_rfl
theorem Tryd.typePP (a : Addr) (w : World) : (ReflectliteValue.methodAny (ReflectliteValue.valueError "reflectlite.Value.Type" 0) (fun t _ _ _ => ReflectliteType.toType t) #[.agg #[.pointer (some ⟨1, 63, none⟩), .pointer (some a), .int .u64 150]]).run Tryd.prog w
    = .ok (.iface 93 (.agg #[.pointer (some ⟨1, 63, none⟩)])) w := by kernel_rfl
theorem Tryd.methodKind (h : Value) (w : World) : (Go.method 260 93 (.agg #[h]) "Kind").run Tryd.prog w = .ok (80, h) w := by kernel_rfl
theorem Tryd.kindPP (w : World) : ((ReflectliteType.abiMethod fun t => (fun a : Nat => Value.int IntKind.u8 (a : Int)) <$> Rtype.kind t) #[.pointer (some ⟨1, 63, none⟩)]).run Tryd.prog w = .ok (.int .u8 22) w := by kernel_rfl
theorem Tryd.kindP (w : World) : ((ReflectliteType.abiMethod fun t => (fun a : Nat => Value.int IntKind.u8 (a : Int)) <$> Rtype.kind t) #[.pointer (some ⟨1, 51, none⟩)]).run Tryd.prog w = .ok (.int .u8 22) w := by kernel_rfl
theorem rlm (z : Sem Value) (f : TypeId → Addr → Nat → Nat → Sem Value) (v : Value) :
    ReflectliteValue.method z f #[v] = (do match ← ReflectliteValue.parts v with | none => z | some (t, a, fl) => f t a fl (fl % 32)) := rfl
theorem Tryd.partsPP (a : Addr) (w : World) : (ReflectliteValue.parts (.agg #[.pointer (some ⟨1, 63, none⟩), .pointer (some a), .int .u64 150])).run Tryd.prog w = .ok (some (63, a, 150)) w := by kernel_rfl
theorem Tryd.isNilPP (a p : Addr) (W : World) (ha : W.cell? a = some (.pointer (some p))) :
    (ReflectliteValue.method (ReflectliteValue.valueError "reflectlite.Value.IsNil" 0) ReflectliteValue.isNil #[.agg #[.pointer (some ⟨1, 63, none⟩), .pointer (some a), .int .u64 150]]).run Tryd.prog W = .ok (.bool false) W := by
  rw [rlm]
  simp only [Sem.run_bind, Tryd.partsPP, Result.andThen]
  simp [ReflectliteValue.isNil, loadVar, isAgg, underlying, Tryd.underlying63, ha, Result.andThen]
theorem Tryd.methodElem (h : Value) (w : World) : (Go.method 260 93 (.agg #[h]) "Elem").run Tryd.prog w = .ok (92, .agg #[h]) w := by kernel_rfl
theorem Tryd.methodImplements (h : Value) (w : World) : (Go.method 260 93 (.agg #[h]) "Implements").run Tryd.prog w = .ok (93, .agg #[h]) w := by kernel_rfl
theorem Tryd.methodAssignableTo (h : Value) (w : World) : (Go.method 260 93 (.agg #[h]) "AssignableTo").run Tryd.prog w = .ok (90, .agg #[h]) w := by kernel_rfl
theorem Tryd.methodComparable (h : Value) (w : World) : (Go.method 260 93 (.agg #[h]) "Comparable").run Tryd.prog w = .ok (91, .agg #[h]) w := by kernel_rfl
theorem Tryd.elemPP (w : World) : (ReflectliteType.method ReflectliteType.elem #[.agg #[.pointer (some ⟨1, 63, none⟩)]]).run Tryd.prog w = .ok (.iface 93 (.agg #[.pointer (some ⟨1, 51, none⟩)])) w := by kernel_rfl
theorem Tryd.implementsP (w : World) : (ReflectliteType.relation "Implements" ReflectliteType.implements_ #[.agg #[.pointer (some ⟨1, 51, none⟩)], .iface 93 (.agg #[.pointer (some ⟨1, 27, none⟩)])]).run Tryd.prog w = .ok (.bool true) w := by kernel_rfl
theorem Tryd.typeOfP (v : Value) (w : World) : (ReflectliteType.typeOf #[.iface 51 v]).run Tryd.prog w = .ok (.iface 93 (.agg #[.pointer (some ⟨1, 51, none⟩)])) w := by kernel_rfl
theorem Tryd.typeOfC (v : Value) (w : World) : (ReflectliteType.typeOf #[.iface 42 v]).run Tryd.prog w = .ok (.iface 93 (.agg #[.pointer (some ⟨1, 42, none⟩)])) w := by kernel_rfl
theorem Tryd.comparableC (w : World) : ((ReflectliteType.method fun t => do Rtype.noPackHeld "Comparable" t; pure (.bool (← typeInfo t).comparable)) #[.agg #[.pointer (some ⟨1, 42, none⟩)]]).run Tryd.prog w = .ok (.bool true) w := by kernel_rfl
theorem Tryd.assignableP (w : World) : (ReflectliteType.relation "AssignableTo" ReflectliteType.assignableTo #[.agg #[.pointer (some ⟨1, 51, none⟩)], .iface 93 (.agg #[.pointer (some ⟨1, 51, none⟩)])]).run Tryd.prog w = .ok (.bool true) w := by kernel_rfl
theorem Tryd.valueOfP (e : Addr) (w : World) : (ReflectliteValue.unpack (.iface 51 (.pointer (some e)))).run Tryd.prog w
    = .ok (.agg #[.pointer (some ⟨1, 51, none⟩), .pointer (some ⟨w.heap.size, 0, none⟩), .int .u64 150]) (w.alloc (.cells #[.pointer (some e)] 51)) := by kernel_rfl
theorem Tryd.elemOfPP (w : World) : (Rtype.elem? 63).run Tryd.prog w = .ok (some 51) w := by kernel_rfl
theorem Tryd.mkP (p : Addr) (w : World) : (ReflectliteValue.mk 51 p ReflectliteValue.flagAddr).run Tryd.prog w = .ok (.agg #[.pointer (some ⟨1, 51, none⟩), .pointer (some p), .int .u64 406]) w := by kernel_rfl
theorem Tryd.elemVPP (a p : Addr) (W : World) (ha : W.cell? a = some (.pointer (some p))) :
    (ReflectliteValue.method (ReflectliteValue.valueError "reflectlite.Value.Elem" 0) ReflectliteValue.elem #[.agg #[.pointer (some ⟨1, 63, none⟩), .pointer (some a), .int .u64 150]]).run Tryd.prog W
      = .ok (.agg #[.pointer (some ⟨1, 51, none⟩), .pointer (some p), .int .u64 406]) W := by
  rw [rlm]
  simp only [Sem.run_bind, Tryd.partsPP, Result.andThen]
  simp [ReflectliteValue.elem, loadVar, isAgg, underlying, Tryd.underlying63, ha, Result.andThen, Tryd.elemOfPP, Tryd.mkP]
theorem rls (v x : Value) : ReflectliteValue.set #[v, x] = (do
    let (some (dst, a, fl), some (src, b, _)) := (← ReflectliteValue.parts v, ← ReflectliteValue.parts x)
      | unsupported (.noEntry "extern/(internal/reflectlite.Value).Set.zeroValue")
    if fl / ReflectliteValue.flagAddr % 2 == 0 then unsupported (.noEntry "extern/(internal/reflectlite.Value).Set.unaddressable")
    let val ← loadVar src b
    if ← Rtype.directlyAssignable dst src then storeVar dst a val
    else if ← Rtype.implements dst src then
      if (← Rtype.kind src) == 20 then
        match val with
        | .nilIface => unsupported (.noEntry "extern/reflectlite: a nil value of one interface type handed on as a value of another")
        | _ => storeVar dst a val
      else storeVar dst a (.iface src val)
    else panicString ("reflectlite.Set: value of type " ++ (← Rtype.spelt src) ++ " is not assignable to type " ++ (← Rtype.spelt dst))
    pure (.tuple #[])) := rfl
theorem Tryd.partsPa (a : Addr) (w : World) : (ReflectliteValue.parts (.agg #[.pointer (some ⟨1, 51, none⟩), .pointer (some a), .int .u64 406])).run Tryd.prog w = .ok (some (51, a, 406)) w := by kernel_rfl
theorem Tryd.partsP (a : Addr) (w : World) : (ReflectliteValue.parts (.agg #[.pointer (some ⟨1, 51, none⟩), .pointer (some a), .int .u64 150])).run Tryd.prog w = .ok (some (51, a, 150)) w := by kernel_rfl
theorem Tryd.directP (w : World) : (Rtype.directlyAssignable 51 51).run Tryd.prog w = .ok true w := by kernel_rfl
theorem Tryd.setP (ta b e : Addr) (old : Value) (W : World) (hb : W.cell? b = some (.pointer (some e))) (ht : W.cell? ta = some old) (hf : W.frozen? ta = false) :
    (ReflectliteValue.set #[.agg #[.pointer (some ⟨1, 51, none⟩), .pointer (some ta), .int .u64 406], .agg #[.pointer (some ⟨1, 51, none⟩), .pointer (some b), .int .u64 150]]).run Tryd.prog W
      = .ok (.tuple #[]) (W.setCell ta (.pointer (some e))) := by
  rw [rls]
  simp only [Sem.run_bind, Tryd.partsPa, Tryd.partsP, Result.andThen]
  simp [ReflectliteValue.flagAddr, loadVar, isAgg, underlying, Tryd.underlying51, hb, Result.andThen, Tryd.directP, storeVar, Value.cells, storeCells, Addr.add]
  rw [run_store Tryd.prog W ta _ _ (by rfl)]
  simp [ht, hf]
end Go.Proofs.YtmjhjacbhflcpaaDoor
