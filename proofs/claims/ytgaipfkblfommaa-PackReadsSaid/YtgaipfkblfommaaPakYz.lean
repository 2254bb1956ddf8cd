/- The document's Read, of bytes that tell no record. -/
import Derived.Test.YtgaipfkblfommaaPakYc
import Derived.Test.YtgaipfkblfommaaPakUe
set_option linter.unusedVariables false
set_option linter.unusedSimpArgs false
namespace Go.Proofs.Ytgaipfkblfommaa
set_option maxRecDepth 100000
open Go.RowKit

def zerr (l : List UInt8) : Int := if 4194304 < l.length then 2 else match pMany l with
  | none => 5
  | some (_, r) => if r.length = 0 then 0 else 16
def ZEnd (l : List UInt8) (w : World) (e : Ending) (w' : World) : Prop := e = .returned (.tuple #[.agg #[.slice none 0 0], .int .i64 (zerr l)]) ∧ Below w.heap.size w w'
set_option maxHeartbeats 8000000 in
theorem rread0_any (a : Option Addr) (l : List UInt8) (c : Nat) (w : World) (hl : Sits byteSh (Lo w.heap.size) w a l) (hc : l.length ≤ c ∧ c ≤ 9223372036854775807) (hz : ∀ n r, pMany l = some (n, r) → n = 0) :
    Calls Try.prog 13 #[.slice a l.length c] w (ZEnd l w) := by
  have HA : Hid (Below w.heap.size w (w.alloc (.cells #[.slice none 0 0] 24))) := (Below.refl _ _).alloc (Nat.le_refl _) _
  have hsz : (w.alloc (.cells #[.slice none 0 0] 24)).heap.size = w.heap.size + 1 := by simp
  have z0 : (w.alloc (.cells #[.slice none 0 0] 24)).cell? ⟨w.heap.size, 0, none⟩ = some (.slice none 0 0) := (cell_of_row _ _ _ _ _ _ (heap_alloc_new w _)).trans rfl
  have zf := frozen_new w #[.slice none 0 0] 24 0
  by_cases hbig : (4194304 : Int) < (l.length : Int)
  · have HE : Hid (ZEnd l w (.returned (.tuple #[.agg #[.slice none 0 0], .int .i64 2])) (w.alloc (.cells #[.slice none 0 0] 24))) := ⟨by unfold zerr; rw [if_pos (by omega)], HA.out⟩
    have e0 := z0
    clear hl HA hz
    go_enter Try.func13, Try.ntmps13
    go_wp2_with fail
    refine bodyPost_ret (v := .tuple #[.agg #[.slice none 0 0], .int .i64 2]) ?_ rfl HE.out
    simp [results, Try.results13, go_sem, e0]
  · have hln : ¬ 4194304 < l.length := by omega
    have HA1 : Hid (Below (w.alloc (.cells #[.slice none 0 0] 24)).heap.size (w.alloc (.cells #[.slice none 0 0] 24)) ((w.alloc (.cells #[.slice none 0 0] 24)).alloc (.cells #[.slice a l.length c, .int .i64 0, .bool false] 71))) := (Below.refl _ _).alloc (Nat.le_refl _) _
    have HA2 : Hid (Below ((w.alloc (.cells #[.slice none 0 0] 24)).alloc (.cells #[.slice a l.length c, .int .i64 0, .bool false] 71)).heap.size ((w.alloc (.cells #[.slice none 0 0] 24)).alloc (.cells #[.slice a l.length c, .int .i64 0, .bool false] 71)) (((w.alloc (.cells #[.slice none 0 0] 24)).alloc (.cells #[.slice a l.length c, .int .i64 0, .bool false] 71)).alloc (.cells #[.slice none 0 0] 24))) := (Below.refl _ _).alloc (Nat.le_refl _) _
    have HB1 : Hid (Below w.heap.size w ((w.alloc (.cells #[.slice none 0 0] 24)).alloc (.cells #[.slice a l.length c, .int .i64 0, .bool false] 71))) := HA.out.trans (HA1.out.mono HA.out.size)
    have HB : Hid (Below w.heap.size w (((w.alloc (.cells #[.slice none 0 0] 24)).alloc (.cells #[.slice a l.length c, .int .i64 0, .bool false] 71)).alloc (.cells #[.slice none 0 0] 24))) := HB1.out.trans (HA2.out.mono HB1.out.size)
    have hn1 := heap_alloc_new (w.alloc (.cells #[.slice none 0 0] 24)) (.cells #[.slice a l.length c, .int .i64 0, .bool false] 71)
    have hsz1 : ((w.alloc (.cells #[.slice none 0 0] 24)).alloc (.cells #[.slice a l.length c, .int .i64 0, .bool false] 71)).heap.size = w.heap.size + 2 := by simp
    have hsz2 : (((w.alloc (.cells #[.slice none 0 0] 24)).alloc (.cells #[.slice a l.length c, .int .i64 0, .bool false] 71)).alloc (.cells #[.slice none 0 0] 24)).heap.size = w.heap.size + 3 := by simp
    have HRS : Hid (DRt (w.heap.size + 1) l (some l) (((w.alloc (.cells #[.slice none 0 0] 24)).alloc (.cells #[.slice a l.length c, .int .i64 0, .bool false] 71)).alloc (.cells #[.slice none 0 0] 24))) := by
      rw [hsz] at hn1
      have h1 : DR (w.heap.size + 1) l 0 false ((w.alloc (.cells #[.slice none 0 0] 24)).alloc (.cells #[.slice a l.length c, .int .i64 0, .bool false] 71)) := by
        refine ⟨⟨a, c, (cell_of_row _ _ _ _ _ _ hn1).trans rfl, (cell_of_row _ _ _ _ _ _ hn1).trans rfl, (cell_of_row _ _ _ _ _ _ hn1).trans rfl, (hl.up HB1.out).keep (fun b (hb : b < w.heap.size) => Nat.lt_succ_of_lt hb) (fun _ _ _ => rfl), hc.1, hc.2⟩, fun j => ?_, by simp, by omega, Nat.zero_le _⟩
        have := frozen_new (w.alloc (.cells #[.slice none 0 0] 24)) #[.slice a l.length c, .int .i64 0, .bool false] 71 j
        rwa [hsz] at this
      exact ⟨0, rfl, h1.below HA2.out⟩
    have HC := Lib.hid (many_any (w.heap.size + 1) l (some l) _ HRS.out)
    have y0 := (HA2.out.cell (p := ⟨w.heap.size, 0, none⟩) (by simp; omega)).trans ((HA1.out.cell (p := ⟨w.heap.size, 0, none⟩) (by simp)).trans z0)
    have yf := (HA2.out.frozen (p := ⟨w.heap.size, 0, none⟩) (by simp; omega)).trans ((HA1.out.frozen (p := ⟨w.heap.size, 0, none⟩) (by simp)).trans zf)
    have hn2 := heap_alloc_new ((w.alloc (.cells #[.slice none 0 0] 24)).alloc (.cells #[.slice a l.length c, .int .i64 0, .bool false] 71)) (.cells #[.slice none 0 0] 24)
    rw [hsz1] at hn2
    have y2 : (((w.alloc (.cells #[.slice none 0 0] 24)).alloc (.cells #[.slice a l.length c, .int .i64 0, .bool false] 71)).alloc (.cells #[.slice none 0 0] 24)).cell? ⟨w.heap.size + 2, 0, none⟩ = some (.slice none 0 0) := (cell_of_row _ _ _ _ _ _ hn2).trans rfl
    have HY := Lib.hid (And.intro y0 (And.intro yf (And.intro y2 hsz2)))
    have HZ := Lib.hid hz
    clear hl hn1 y0 yf HRS hsz1 hsz z0 zf HA1 HA2 hn2 y2 hsz2 hz
    go_enter Try.func13, Try.ntmps13
    go_wp2_with fail
    refine HC.out.mono ?_
    rintro e w2 ⟨n, at', bad, rfl, hdr, hle, hk2, hbeh⟩
    obtain ⟨y0, yf, y2, hsz2⟩ := HY.out
    have q0 := (hk2.cell (h := w.heap.size) (by omega) (by omega) 0).trans y0
    have qf := (hk2.frozen (h := w.heap.size) (by omega) (by omega) 0).trans yf
    have q2 := (hk2.cell (h := w.heap.size + 2) (by omega) (by omega) 0).trans y2
    have HB2 : Below w.heap.size w w2 := HB.out.trans ⟨hk2.os, hk2.tape, hk2.output, hk2.size, fun q hq => hk2.block q (by omega) (by omega)⟩
    have FR := ((Far.refl w.heap.size w2).set (j := 0) (.slice none 0 0))
    have HBE := Lib.hid (HB2.trans (FR.below (Nat.le_refl _)))
    obtain ⟨ra, rc, g1, g2, g3, _⟩ := hdr.st
    have e0 := res1 (.slice none 0 0) q0
    cases bad with
    | true =>
      have hp : pMany l = none := by
        cases h : pMany l with
        | none => rfl
        | some q =>
          have h2 : Beh l (pMany l) n at' true := hbeh
          rw [h] at h2
          exact absurd h2.2.1 (by decide)
      have HE : Hid (ZEnd l w (.returned (.tuple #[.agg #[.slice none 0 0], .int .i64 5])) (w2.setCell ⟨w.heap.size, 0, none⟩ (.slice none 0 0))) := ⟨by unfold zerr; rw [if_neg hln, hp], HBE.out⟩
      clear hdr hk2 hbeh HB2 FR HC HY HZ HB HB1 HA HBE y0 yf y2 hp
      by_cases hn0 : (0 : Int) < (n : Int)
      · go_wp2_with fail
        go_loopw [7] (fun i wr => i = .int .i64 0 ∧ w2 = wr) (fun _ _ => 0)
        case atStart => exact ⟨rfl, rfl⟩
        case round =>
          obtain ⟨rfl, rfl⟩ := hrel
          go_wp2_with fail
          refine bodyPost_ret (v := .tuple #[.agg #[.slice none 0 0], .int .i64 5]) ?_ rfl HE.out
          simp [results, Try.results13, go_sem, e0]
      · go_wp2_with fail
        go_loopw [7] (fun i wr => i = .int .i64 0 ∧ w2 = wr) (fun _ _ => 0)
        case atStart => exact ⟨rfl, rfl⟩
        case round =>
          obtain ⟨rfl, rfl⟩ := hrel
          go_wp2_with fail
          refine bodyPost_ret (v := .tuple #[.agg #[.slice none 0 0], .int .i64 5]) ?_ rfl HE.out
          simp [results, Try.results13, go_sem, e0]
    | false =>
      obtain ⟨r, hp, hr⟩ : ∃ r, pMany l = some (n, r) ∧ r = l.drop at' := by
        have h2 : Beh l (pMany l) n at' false := hbeh
        cases h : pMany l with
        | none => rw [h] at h2; exact absurd (show false = true from h2) (by decide)
        | some q => rw [h] at h2; exact ⟨q.2, by rw [h2.1], h2.2.2⟩
      have hn0 := HZ.out n r hp
      subst hn0
      by_cases hmore : (at' : Int) < (l.length : Int)
      · have HE : Hid (ZEnd l w (.returned (.tuple #[.agg #[.slice none 0 0], .int .i64 16])) (w2.setCell ⟨w.heap.size, 0, none⟩ (.slice none 0 0))) := ⟨by unfold zerr; rw [if_neg hln, hp]; simp only; rw [if_neg (by rw [hr, List.length_drop]; omega)], HBE.out⟩
        clear hdr hk2 hbeh HB2 FR HC HY HZ HB HB1 HA HBE y0 yf y2 hp hr
        go_wp2_with fail
        go_loopw [7] (fun i wr => i = .int .i64 0 ∧ w2 = wr) (fun _ _ => 0)
        case atStart => exact ⟨rfl, rfl⟩
        case round =>
          obtain ⟨rfl, rfl⟩ := hrel
          go_wp2_with fail
          refine bodyPost_ret (v := .tuple #[.agg #[.slice none 0 0], .int .i64 16]) ?_ rfl HE.out
          simp [results, Try.results13, go_sem, e0]
      · have HE : Hid (ZEnd l w (.returned (.tuple #[.agg #[.slice none 0 0], .int .i64 0])) (w2.setCell ⟨w.heap.size, 0, none⟩ (.slice none 0 0))) := ⟨by unfold zerr; rw [if_neg hln, hp]; simp only; rw [if_pos (by rw [hr, List.length_drop]; omega)], HBE.out⟩
        clear hdr hk2 hbeh HB2 FR HC HY HZ HB HB1 HA HBE y0 yf y2 hp hr
        go_wp2_with fail
        go_loopw [7] (fun i wr => i = .int .i64 0 ∧ w2 = wr) (fun _ _ => 0)
        case atStart => exact ⟨rfl, rfl⟩
        case round =>
          obtain ⟨rfl, rfl⟩ := hrel
          go_wp2_with fail
          refine bodyPost_ret (v := .tuple #[.agg #[.slice none 0 0], .int .i64 0]) ?_ rfl HE.out
          simp [results, Try.results13, go_sem, e0]
end Go.Proofs.Ytgaipfkblfommaa
