/- The document's example of layer 4; the document's Light. The document's own Value; lin.Same. The document's Light. -/
import Derived.Test.YtmjhjacbhflcpaaMs02
import Derived.Test.YtmjhjacbhflcpaaMs04
import Derived.Test.YtmjhjacbhflcpaaMs09
set_option linter.unusedVariables false
set_option linter.unusedSimpArgs false
namespace Go.Proofs.Ytmjhjacbhflcpaa
open Go.RowKit Go.Maps

theorem heap_at (w : World) (o : Obj) (k : Nat) : (w.alloc o).heap[k]? = if k = w.heap.size then some o else w.heap[k]? := by
  by_cases h : k = w.heap.size
  · rw [if_pos h, h]; exact heap_alloc_new w o
  · rw [if_neg h]
    by_cases h2 : k < w.heap.size
    · exact Below.heap_alloc w o k h2
    · rw [Array.getElem?_eq_none (by simp; omega), Array.getElem?_eq_none (by omega)]
theorem sumOf_eq {l R : List (Int × Int)} (h : IsSum l R) : sumOf l = R := (sumOf_is l).unique h

def upLs : List (Int × List (Int × Int)) := [(-1, [(0, 1)]), (2, [(0, -1)])]
def upSs : List (List (Int × Int) × Int) := [([(0, 1), (1, 1)], 1)]
theorem up_sum : sumOf (tTo upLs [(0, 1), (1, 1)] 2) = [] := sumOf_eq ⟨List.Pairwise.nil, fun m hm => absurd hm List.not_mem_nil, fun v => by
  rw [show tTo upLs [(0, 1), (1, 1)] 2 = [(0, 1), (0, -1)] from rfl, coef_cons, coef_cons, coef_nil]
  by_cases h : (0 : Int) = v
  · rw [if_pos h, if_pos h]; decide
  · rw [if_neg h, if_neg h]; decide⟩
theorem up_tell : tellS upLs ([(0, 1), (1, 1)], 1) = 0 := by
  show tellK 2 (cTo upLs [(0, 1), (1, 1)] 2) 1 [(0, 1), (1, 1)] (sumOf (tTo upLs [(0, 1), (1, 1)] 2)) = 0
  rw [up_sum]; decide
theorem up_line : lineS upLs ([(0, 1), (1, 1)], 1) = (1, []) := by
  show (upI (cTo upLs [(0, 1), (1, 1)] 2) 1, divT 1 (sumOf (tTo upLs [(0, 1), (1, 1)] 2))) = _
  rw [up_sum]; decide
theorem up_lines : LinesIs upLs upSs 0 (-1) (lnL upLs upSs 1) := by
  refine .ok (by decide) (by decide) (fun i hi => ?_) (fun j hj => ?_)
  · match i, hi with
    | 0, _ => decide
    | 1, _ => decide
  · match j, hj with
    | 0, _ => exact up_tell
theorem up_ref : refX 0 (lnL upLs upSs 1) = 0 := by
  unfold refX
  rw [if_pos rfl, if_pos]
  show hasR (upLs ++ [lineS upLs ([(0, 1), (1, 1)], 1)]) = true
  rw [up_line]; decide
theorem none_lines : LinesIs [] [] 0 (-1) [] := .ok (by decide) (by decide) (fun i hi => absurd hi (Nat.not_lt_zero _)) (fun j hj => absurd hj (Nat.not_lt_zero _))

def upW (w : World) : World := ((((((w.alloc (.cells #[.int .i64 0, .int .i64 1] 41)).alloc (.cells #[.int .i64 (-1), .slice (some ⟨w.heap.size, 0, none⟩) 1 1] 35)).alloc (.cells #[.int .i64 0, .int .i64 (-1)] 41)).alloc (.cells #[.int .i64 2, .slice (some ⟨w.heap.size + 1 + 1, 0, none⟩) 1 1] 35)).alloc
  (.cells #[.int .i64 (-1), .slice (some ⟨w.heap.size, 0, none⟩) 1 1, .int .i64 2, .slice (some ⟨w.heap.size + 1 + 1, 0, none⟩) 1 1] 35)).alloc (.cells #[.int .i64 0, .int .i64 1, .int .i64 1, .int .i64 1] 43)).alloc (.cells #[.slice (some ⟨w.heap.size + 1 + 1 + 1 + 1 + 1, 0, none⟩) 2 2, .int .i64 1] 46)
theorem up_given (w : World) : Given (upW w).heap.size (upW w) (some ⟨w.heap.size + 1 + 1 + 1 + 1, 0, none⟩) 2 upLs (some ⟨w.heap.size + 1 + 1 + 1 + 1 + 1 + 1, 0, none⟩) 1 upSs := by
  have hz : (upW w).heap.size = w.heap.size + 7 := by simp [upW]
  have h0 : (upW w).heap[w.heap.size]? = some (.cells #[.int .i64 0, .int .i64 1] 41 (0, 0)) := (by simp only [upW, heap_at, World.size_alloc]; repeat (first | rw [if_pos trivial] | rw [if_pos (by omega)] | rw [if_neg (by omega)]))
  have h2 : (upW w).heap[w.heap.size + 1 + 1]? = some (.cells #[.int .i64 0, .int .i64 (-1)] 41 (0, 0)) := (by simp only [upW, heap_at, World.size_alloc]; repeat (first | rw [if_pos trivial] | rw [if_pos (by omega)] | rw [if_neg (by omega)]))
  have h4 : (upW w).heap[w.heap.size + 1 + 1 + 1 + 1]? = some (.cells #[.int .i64 (-1), .slice (some ⟨w.heap.size, 0, none⟩) 1 1, .int .i64 2, .slice (some ⟨w.heap.size + 1 + 1, 0, none⟩) 1 1] 35 (0, 0)) := (by simp only [upW, heap_at, World.size_alloc]; repeat (first | rw [if_pos trivial] | rw [if_pos (by omega)] | rw [if_neg (by omega)]))
  have h5 : (upW w).heap[w.heap.size + 1 + 1 + 1 + 1 + 1]? = some (.cells #[.int .i64 0, .int .i64 1, .int .i64 1, .int .i64 1] 43 (0, 0)) := (by simp only [upW, heap_at, World.size_alloc]; repeat (first | rw [if_pos trivial] | rw [if_pos (by omega)] | rw [if_neg (by omega)]))
  have h6 : (upW w).heap[w.heap.size + 1 + 1 + 1 + 1 + 1 + 1]? = some (.cells #[.slice (some ⟨w.heap.size + 1 + 1 + 1 + 1 + 1, 0, none⟩) 2 2, .int .i64 1] 46 (0, 0)) := (by simp only [upW, heap_at, World.size_alloc]; repeat (first | rw [if_pos trivial] | rw [if_pos (by omega)] | rw [if_neg (by omega)]))
  generalize upW w = W at hz h0 h2 h4 h5 h6 ⊢
  have hl0 : Lies W.heap.size W (some ⟨w.heap.size, 0, none⟩) [(0, 1)] := fun i hi => by
    match i, hi with
    | 0, _ => exact ⟨_, 0, rfl, by omega, (cell_of_row _ _ _ _ _ _ h0).trans rfl, (cell_of_row _ _ _ _ _ _ h0).trans rfl⟩
  have hl2 : Lies W.heap.size W (some ⟨w.heap.size + 1 + 1, 0, none⟩) [(0, -1)] := fun i hi => by
    match i, hi with
    | 0, _ => exact ⟨_, 0, rfl, by omega, (cell_of_row _ _ _ _ _ _ h2).trans rfl, (cell_of_row _ _ _ _ _ _ h2).trans rfl⟩
  have hl5 : Lies W.heap.size W (some ⟨w.heap.size + 1 + 1 + 1 + 1 + 1, 0, none⟩) [(0, 1), (1, 1)] := fun i hi => by
    match i, hi with
    | 0, _ => exact ⟨_, 0, rfl, by omega, (cell_of_row _ _ _ _ _ _ h5).trans rfl, (cell_of_row _ _ _ _ _ _ h5).trans rfl⟩
    | 1, _ => exact ⟨_, 0, rfl, by omega, (cell_of_row _ _ _ _ _ _ h5).trans rfl, (cell_of_row _ _ _ _ _ _ h5).trans rfl⟩
  refine ⟨rfl, fun i hi => ?_, fun i hi => ?_, rfl, fun i hi => ?_, by omega, by omega⟩
  · match i, hi with
    | 0, _ => exact ⟨_, 0, _, _, rfl, by omega, (cell_of_row _ _ _ _ _ _ h4).trans rfl, (cell_of_row _ _ _ _ _ _ h4).trans rfl, hl0⟩
    | 1, _ => exact ⟨_, 0, _, _, rfl, by omega, (cell_of_row _ _ _ _ _ _ h4).trans rfl, (cell_of_row _ _ _ _ _ _ h4).trans rfl, hl2⟩
  · match i, hi with
    | 0, _ => decide
    | 1, _ => decide
  · match i, hi with
    | 0, _ => exact ⟨_, 0, _, _, rfl, by omega, by decide, (cell_of_row _ _ _ _ _ _ h6).trans rfl, (cell_of_row _ _ _ _ _ _ h6).trans rfl, hl5⟩
theorem none_given (w : World) : Given w.heap.size w none 0 [] none 0 [] :=
  ⟨rfl, fun i hi => absurd hi (Nat.not_lt_zero _), fun i hi => absurd hi (Nat.not_lt_zero _), rfl, fun i hi => absurd hi (Nat.not_lt_zero _), by omega, by omega⟩

/-- The document's example holds. -/
def UpSaid4 : Prop := ∀ w : World, Calls Try.prog 5 #[] w fun e w' => e = .returned (.bool true) ∧ Below w.heap.size w w'
set_option maxRecDepth 100000 in
set_option maxHeartbeats 1000000 in
theorem up_said4 : UpSaid4 := fun w => by
  have HR := Lib.hid (refutes_any _ 2 2 upLs _ 1 1 upSs (upW w) (up_given w) 0 (-1) _ up_lines)
  rw [up_ref] at HR
  have HR2 := Lib.hid (fun W => refutes_any none 0 0 [] none 0 0 [] W (none_given W) 0 (-1) [] none_lines)
  rw [show refX 0 [] = 8 from rfl] at HR2
  have HB : Hid (Below w.heap.size w (upW w)) := by
    have hb := (Below.refl w.heap.size w)
    show Below _ _ _
    unfold upW
    refine Below.alloc (Below.alloc (Below.alloc (Below.alloc (Below.alloc (Below.alloc (Below.alloc hb ?_ _) ?_ _) ?_ _) ?_ _) ?_ _) ?_ _) ?_ _ <;> simp <;> omega
  have e1 := fun W => Try.eqCode 8 8 W
  go_enter Try.func5, Try.ntmps5
  go_wp2_with fail
  refine HR.out.mono ?_
  rintro e w1 ⟨er, rfl, her, hb1⟩
  rw [her.1 (by omega), codeV_zero]
  have HB1 := Lib.hid (HB.out.trans (hb1.mono HB.out.size))
  clear her hb1
  go_wp2_with fail
  refine (HR2.out _).mono ?_
  rintro e w2 ⟨er, rfl, her, hb2⟩
  rw [her.1 (by omega), codeV_ne (by decide)]
  have HB2 := Lib.hid (HB1.out.trans (hb2.mono HB1.out.size))
  clear her hb2
  go_wp2_with fail
  go_ret
  exact ⟨rfl, HB2.out⟩
end Go.Proofs.Ytmjhjacbhflcpaa

namespace Go.Proofs.Ytmjhjacbhflcpaa
open Go.RowKit

set_option maxHeartbeats 400000 in
theorem of_any (v : Int) (a : Option Addr) (n cap : Nat) (zs : List Int) (w : World) (hn : zs.length = n) (hm : n ≤ 9223372036854775807) (hv : 0 ≤ v) (hz : Nums w.heap.size w a zs) :
    Calls Try.prog 15 #[.slice a n cap, .int .i64 v] w fun e w' => e = .returned (.int .i64 (valOf zs v)) ∧ w = w' := by
  by_cases hlt : v < n
  · obtain ⟨i, rfl⟩ := Int.eq_ofNat_of_zero_le hv
    obtain ⟨b, off, rfl, hb, hc⟩ := hz i (by omega)
    have hx2 : valOf zs (i : Int) = zs.getD i 0 := by unfold valOf; rw [if_pos (by omega)]; simp
    rw [hx2]
    generalize zs.getD i 0 = x at hc ⊢
    clear hz hn hx2
    go_enter Try.func15, Try.ntmps15
    go_wp2
    go_ret
    exact ⟨rfl, rfl⟩
  · have hx2 : valOf zs v = 0 := by unfold valOf; rw [if_neg (by omega)]
    rw [hx2]
    clear hz hn hx2
    go_enter Try.func15, Try.ntmps15
    go_wp2
    go_ret
    exact ⟨rfl, rfl⟩

theorem sAt_eq (c : Int) (l : List (Int × Int)) (zs : List Int) (k : Nat) : sAt c l zs (k + 1) = sAt c l zs k + valOf zs (l.getD k (0, 0)).1 * (l.getD k (0, 0)).2 := by
  show sAt c l zs k + _ * _ = _
  rw [Int.mul_comm]

set_option maxHeartbeats 1000000 in
theorem rvalue_form (c : Int) (a : Option Addr) (n cap : Nat) (l : List (Int × Int)) (a2 : Option Addr) (n2 cap2 : Nat) (w : World) (hn : l.length = n) (hm : n ≤ 9223372036854775807) (hl : Lies w.heap.size w a l) (hs : snd c l = false) :
    Calls Try.prog 8 #[.agg #[.int .i64 c, .slice a n cap], .slice a2 n2 cap2] w fun e w' => e = .returned (.tuple #[.int .i64 0, .int .i64 5]) ∧ Below w.heap.size w w' := by
  have hb0 : Below w.heap.size w (w.alloc (.cells #[.int .i64 c, .slice a n cap] 35)) := (Below.refl _ w).alloc (Nat.le_refl _) _
  have hck := rcheck_any c a n cap l _ hn hm ((hl.below hb0).mono hb0.size)
  rw [hs] at hck
  have HB := Lib.hid hb0
  clear hn hs hl hb0
  go_enter Try.func8, Try.ntmps8
  go_wp2_with (go_at_call 14; refine hck.mono ?_; rintro e w1 ⟨rfl, hb1⟩)
  go_ret2
  exact ⟨rfl, HB.out.trans (hb1.mono (by simp))⟩

theorem val_mul {x k : Int} (hx : -16777216 ≤ x ∧ x ≤ 16777216) (hk : -1073741824 ≤ k ∧ k ≤ 1073741824) : -18014398509481984 ≤ x * k ∧ x * k ≤ 18014398509481984 := by
  have h1 : (x * k).natAbs ≤ 16777216 * 1073741824 := by
    rw [Int.natAbs_mul]; exact Nat.mul_le_mul (by omega) (by omega)
  omega

set_option maxHeartbeats 1600000 in
theorem rvalue_any (c : Int) (a : Option Addr) (n cap : Nat) (l : List (Int × Int)) (a2 : Option Addr) (n2 cap2 : Nat) (zs : List Int) (w : World) (hn : l.length = n) (hn2 : zs.length = n2) (hm2 : n2 ≤ 9223372036854775807) (hl : Lies w.heap.size w a l) (hz : Nums w.heap.size w a2 zs) (hs : snd c l = true)
    (v r : Int) (hr : (v = sAt c l zs n ∧ r = 0 ∧ ∀ i, i < n → near l zs i = true) ∨ (v = 0 ∧ r = 1 ∧ ¬ ∀ i, i < n → near l zs i = true)) :
    Calls Try.prog 8 #[.agg #[.int .i64 c, .slice a n cap], .slice a2 n2 cap2] w fun e w' => e = .returned (.tuple #[.int .i64 v, .int .i64 r]) ∧ Below w.heap.size w w' := by
  obtain ⟨hwc, h64, hall⟩ := snd_iff.1 hs
  have hcb : -1073741824 ≤ c ∧ c ≤ 1073741824 := by unfold wi at hwc; simpa using hwc
  have hb0 : Below w.heap.size w (w.alloc (.cells #[.int .i64 c, .slice a n cap] 35)) := (Below.refl _ w).alloc (Nat.le_refl _) _
  have hck := rcheck_any c a n cap l _ hn (by omega) ((hl.below hb0).mono hb0.size)
  rw [hs] at hck
  have hn64 : n ≤ 64 := by omega
  have HB := Lib.hid hb0
  have HN := Lib.hid hn
  have HN2 := Lib.hid hn2
  have HL := Lib.hid hl
  have HZ := Lib.hid hz
  have HR := Lib.hid hr
  have HK := Lib.hid (fun j (hj : j < n) => okAt_in (hall j (by omega)))
  have HSI := Lib.hid (fun k (hk : k ≤ n) hx => sAt_in c l zs hcb k (by omega) (fun j hj => (okAt_in (hall j (by omega))).2.2.2.2) hx)
  clear hn hn2 hl hz hr hall hwc hb0 hs h64 hcb
  go_enter Try.func8, Try.ntmps8
  go_wp2_with (go_at_call 14; refine hck.mono ?_; rintro e w1 ⟨rfl, hb1⟩; obtain ⟨hc1, hf1⟩ := bcell hb1; have hz1 : w.heap.size < w1.heap.size := (by have := hb1.size; simp at this; omega))
  have B1 := Lib.hid (HB.out.trans (hb1.mono (by simp)))
  have a0 : w1.cell? ⟨w.heap.size, 1, none⟩ = some (.slice a n cap) := by rw [hc1 _ _ (by simp)]; simp
  clear hc1 hf1 hb1 hck
  go_loop [7, 8, 9] (fun s i _ => ∃ k : Nat, k ≤ n ∧ i = .int .i64 k ∧ s = .int .i64 (sAt c l zs k) ∧ Hid (∀ j, j < k → near l zs j = true)) (fun _ i _ => n - (intOf i).toNat)
  case atStart => exact ⟨0, Nat.zero_le _, rfl, rfl, fun j hj => absurd hj (Nat.not_lt_zero j)⟩
  case round =>
    obtain ⟨k, hk, rfl, rfl, hok⟩ := hrel
    by_cases hlt : k < n
    · obtain ⟨b, off, rfl, hblt, c1, c2⟩ := (HL.out.below B1.out) k (by rw [HN.out]; exact hlt)
      have hkk := HK.out k hlt
      have hof := of_any (l.getD k (0, 0)).1 a2 n2 cap2 zs w1 HN2.out hm2 hkk.2.2.1 ((HZ.out.below B1.out).mono B1.out.size)
      have hss := HSI.out k hk (fun j hj => hok.out j hj)
      have hst := sAt_eq c l zs k
      by_cases hx : near l zs k = true
      · have hok2 : Hid (∀ j, j < k + 1 → near l zs j = true) := fun j hj => by
          by_cases ej : j = k
          · rw [ej]; exact hx
          · exact hok.out j (by omega)
        have hxb : -16777216 ≤ valOf zs (l.getD k (0, 0)).1 ∧ valOf zs (l.getD k (0, 0)).1 ≤ 16777216 := by unfold near wi at hx; simpa using hx
        have hm := val_mul hxb hkk.2.2.2.2
        have HST := Lib.hid hst
        clear hst hx hkk
        generalize hX : valOf zs (l.getD k (0, 0)).1 = X at hof hxb hm HST
        generalize (l.getD k (0, 0)).1 = v at c1 hof
        generalize (l.getD k (0, 0)).2 = u at c2 hm HST
        generalize hS : sAt c l zs k = S at hss HST
        clear hX hS
        go_wp2_with (go_at_call 15; refine hof.mono ?_; rintro e w' ⟨rfl, rfl⟩)
        go_round
        case rel => exact ⟨k + 1, by omega, by go_num, by rw [HST.out], hok2⟩
        case measure => simp [intOf]; omega
      · have HF : Hid (v = 0 ∧ r = 1) := by
          rcases HR.out with ⟨_, _, h3⟩ | ⟨h1, h2, _⟩
          · exact absurd (h3 k hlt) hx
          · exact ⟨h1, h2⟩
        have hxb : ¬ (-16777216 ≤ valOf zs (l.getD k (0, 0)).1 ∧ valOf zs (l.getD k (0, 0)).1 ≤ 16777216) := fun h => hx (by unfold near; exact wi_t h)
        clear hst hx hkk
        generalize hX : valOf zs (l.getD k (0, 0)).1 = X at hof hxb
        generalize (l.getD k (0, 0)).1 = v at c1 hof
        clear hX
        obtain ⟨rfl, rfl⟩ := HF.out
        by_cases hlo : X < -16777216
        · go_wp2_with (go_at_call 15; refine hof.mono ?_; rintro e w' ⟨rfl, rfl⟩)
          go_ret2
          exact ⟨rfl, B1.out⟩
        · have hhi : 16777216 < X := by omega
          go_wp2_with (go_at_call 15; refine hof.mono ?_; rintro e w' ⟨rfl, rfl⟩)
          go_ret2
          exact ⟨rfl, B1.out⟩
    · have hkn : n = k := by omega
      have HF : Hid (v = sAt c l zs k ∧ r = 0) := by
        rcases HR.out with ⟨h1, h2, _⟩ | ⟨_, _, h3⟩
        · rw [hkn] at h1; exact ⟨h1, h2⟩
        · exact absurd (fun i hi => hok.out i (by omega)) h3
      clear hkn HR
      obtain ⟨rfl, rfl⟩ := HF.out
      clear HF
      go_wp2
      go_ret2
      exact ⟨rfl, B1.out⟩

end Go.Proofs.Ytmjhjacbhflcpaa

namespace Go.Proofs.Ytmjhjacbhflcpaa
open Go.RowKit Go.Maps

def SomeBool (w : World) (e : Ending) (w' : World) : Prop := ∃ b, e = .returned (.bool b) ∧ w = w'
set_option maxRecDepth 100000 in
set_option maxHeartbeats 1000000 in
theorem light_any (a : Option Addr) (n cap : Nat) (ls : List (Int × List (Int × Int))) (sa : Option Addr) (sn scap : Nat) (ss : List (List (Int × Int) × Int)) (w : World) (h : Given w.heap.size w a n ls sa sn ss) :
    Calls Try.prog 6 #[.slice a n cap, .slice sa sn scap] w (SomeBool w) := by
  have HG := Lib.hid h
  have hnm := h.nm
  have hsm := h.sm
  clear h
  by_cases hA : (100 < n ∧ n ≤ 4096) ∨ (100 < sn ∧ sn ≤ 4096)
  · by_cases h1 : 100 < n
    · by_cases h2 : n ≤ 4096
      · go_enter Try.func6, Try.ntmps6
        go_wp2_with fail
        go_ret
        exact ⟨_, rfl, rfl⟩
      · have h3 : 100 < sn := by omega
        have h4 : sn ≤ 4096 := by omega
        go_enter Try.func6, Try.ntmps6
        go_wp2_with fail
        go_ret
        exact ⟨_, rfl, rfl⟩
    · have h3 : 100 < sn := by omega
      have h4 : sn ≤ 4096 := by omega
      go_enter Try.func6, Try.ntmps6
      go_wp2_with fail
      go_ret
      exact ⟨_, rfl, rfl⟩
  · have key : ∀ (P1 : n ≤ 100 ∨ 4096 < n) (P2 : sn ≤ 100 ∨ 4096 < sn), Calls Try.prog 6 #[.slice a n cap, .slice sa sn scap] w (SomeBool w) := by
      intro P1 P2
      go_enter Try.func6, Try.ntmps6
      rcases P1 with P1 | P1 <;> rcases P2 with P2 | P2
      all_goals
        have Q1 : Hid (n ≤ 100 ∨ 4096 < n) := by show _ ∨ _; omega
        have Q2 : Hid (sn ≤ 100 ∨ 4096 < sn) := by show _ ∨ _; omega
        go_wp2_with fail
        clear P1 P2
        go_loopw [5] (fun i wr => ∃ (k : Nat), k ≤ n ∧ k ≤ 100 ∧ i = .int .i64 k ∧ wr = w) (fun i _ => 100 - (intOf i).toNat)
        case atStart => exact ⟨0, Nat.zero_le _, by omega, rfl, rfl⟩
        case round =>
          obtain ⟨k, hk, hk1, rfl, rfl⟩ := hrel
          by_cases hlt : k < n
          · by_cases hlt2 : k < 100
            · obtain ⟨b, off, ta, tcap, rfl, hblt, c0, c1, _⟩ := HG.out.ll k (by rw [HG.out.ln]; exact hlt)
              generalize (ls.getD k (0, [])).2.length = m at c1
              clear c0
              by_cases hm : 100 < m
              · go_wp2_with fail
                first | done | (go_ret; exact ⟨_, rfl, rfl⟩)
              · go_wp2_with fail
                first | done | (refine ⟨⟨k + 1, by omega, by omega, by go_num, trivial⟩, by simp [intOf]; omega⟩)
            · obtain ⟨w9, rfl⟩ : ∃ w9 : World, w9 = wr := ⟨_, rfl⟩
              go_wp2_with fail
              first
              | done
              | (go_loopw [6] (fun i wr' => ∃ (k : Nat), k ≤ sn ∧ k ≤ 100 ∧ i = .int .i64 k ∧ wr' = w9) (fun i _ => 100 - (intOf i).toNat)
                 case atStart => exact ⟨0, Nat.zero_le _, by omega, rfl, rfl⟩
                 case round =>
                   obtain ⟨k, hk, hk1, rfl, rfl⟩ := hrel
                   by_cases hlt : k < sn
                   · by_cases hlt2 : k < 100
                     · obtain ⟨b, off, ta, tcap, rfl, hblt, _, c0, c1, _⟩ := HG.out.sll k (by rw [HG.out.sl]; exact hlt)
                       generalize (ss.getD k ([], 0)).1.length = m at c0
                       clear c1
                       by_cases hm : 100 < m
                       · go_wp2_with fail
                         first | done | (go_ret; exact ⟨_, rfl, rfl⟩)
                       · go_wp2_with fail
                         first | done | (refine ⟨⟨k + 1, by omega, by omega, by go_num, trivial⟩, by simp [intOf]; omega⟩)
                     · go_wp2_with fail
                       first | done | (go_ret; exact ⟨_, rfl, rfl⟩)
                   · go_wp2_with fail
                     first | done | (go_ret; exact ⟨_, rfl, rfl⟩))
          · obtain ⟨w9, rfl⟩ : ∃ w9 : World, w9 = wr := ⟨_, rfl⟩
            go_wp2_with fail
            first
            | done
            | (go_loopw [6] (fun i wr' => ∃ (k : Nat), k ≤ sn ∧ k ≤ 100 ∧ i = .int .i64 k ∧ wr' = w9) (fun i _ => 100 - (intOf i).toNat)
               case atStart => exact ⟨0, Nat.zero_le _, by omega, rfl, rfl⟩
               case round =>
                 obtain ⟨k, hk, hk1, rfl, rfl⟩ := hrel
                 by_cases hlt : k < sn
                 · by_cases hlt2 : k < 100
                   · obtain ⟨b, off, ta, tcap, rfl, hblt, _, c0, c1, _⟩ := HG.out.sll k (by rw [HG.out.sl]; exact hlt)
                     generalize (ss.getD k ([], 0)).1.length = m at c0
                     clear c1
                     by_cases hm : 100 < m
                     · go_wp2_with fail
                       first | done | (go_ret; exact ⟨_, rfl, rfl⟩)
                     · go_wp2_with fail
                       first | done | (refine ⟨⟨k + 1, by omega, by omega, by go_num, trivial⟩, by simp [intOf]; omega⟩)
                   · go_wp2_with fail
                     first | done | (go_ret; exact ⟨_, rfl, rfl⟩)
                 · go_wp2_with fail
                   first | done | (go_ret; exact ⟨_, rfl, rfl⟩))
    exact key (by omega) (by omega)
end Go.Proofs.Ytmjhjacbhflcpaa
