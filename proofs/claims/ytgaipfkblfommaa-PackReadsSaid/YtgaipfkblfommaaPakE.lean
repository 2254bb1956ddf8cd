/- The writer: a part. -/
import Derived.Test.YtgaipfkblfommaaPakD
set_option linter.unusedVariables false
set_option linter.unusedSimpArgs false
namespace Go.Proofs.Ytgaipfkblfommaa
set_option maxRecDepth 100000
open Go.RowKit

set_option maxHeartbeats 4000000 in
theorem part1_any (g : Nat) (r : Option Nat) (out : List UInt8) (w : World) (h : WS g r out w) (q : Nat) (hq : Apart q g r w) (hqc : w.cell? ⟨q, 0, none⟩ = some (.pointer (some ⟨g, 0, none⟩))) (x : Part) (h1 : i64 x.line) (h2 : i64 x.times) :
    Calls Try.prog 46 #[.agg #[.int .i64 x.line, .int .i64 x.times], .pointer (some ⟨q, 0, none⟩)] w (WEnd g r w (out ++ encPart x)) := by
  obtain ⟨l, t⟩ := x
  have HB : Hid (Below w.heap.size w (w.alloc (.cells #[.int .i64 l, .int .i64 t] 99))) := (Below.refl _ _).alloc (Nat.le_refl _) _
  have HW := Lib.hid h
  have HA := Lib.hid (h.fresh (.cells #[.int .i64 l, .int .i64 t] 99))
  obtain ⟨hq1, hqd⟩ := hq.below HB.out
  have HQ := Lib.hid hq1
  have hqc1 := (hqd 0).trans hqc
  have HN := Lib.hid (number_any g r out l _ (h.below HB.out) h1)
  have HT := Lib.hid h2
  have hgl := h.lt
  have hql := hq.lt
  have hb1 := cell_of_row (w.alloc (.cells #[.int .i64 l, .int .i64 t] 99)) w.heap.size 1 _ _ _ (heap_alloc_new w _)
  clear h hqd hq1 h1 h2
  go_enter Try.func46, Try.ntmps46
  go_wp2_with fail
  refine HN.out.mono ?_
  rintro e w5 ⟨rfl, r1, hs1, hr1, hk1⟩
  obtain ⟨hq5, hqe⟩ := HQ.out.next hr1 hk1
  obtain ⟨ha5, hae⟩ := HA.out.next hr1 hk1
  have p0 := (hqe 0).trans hqc1
  have p1 := (hae 1).trans hb1
  have HN2 := Lib.hid (number_any g r1 (out ++ num l) t w5 hs1 HT.out)
  have HX : Hid (∀ w2, WTo g r1 w5 (out ++ num l ++ num t) w2 → WTo g r w (out ++ encPart ⟨l, t⟩) w2) := fun w2 h2 => by
    have := WTo.trans (.inl rfl) (KeptW.of_below HB.out) (WTo.trans hr1 hk1 h2)
    unfold encPart
    rwa [List.append_assoc] at this
  clear hs1 hr1 hk1 hq5 hqe ha5 hae HN hqc1 hb1 hqc
  go_wp2_with fail
  refine HN2.out.mono ?_
  rintro e w6 ⟨rfl, hw6⟩
  have HE := Lib.hid (HX.out w6 hw6)
  clear hw6 HX HN2
  go_wp2_with fail
  go_end0
  exact ⟨rfl, HE.out⟩
set_option maxHeartbeats 4000000 in
theorem sevPart_any (g : Nat) (r : Option Nat) (out : List UInt8) (w : World) (h : WS g r out w) (a : Option Addr) (n cap : Nat) (xs : List Part) (hn : xs.length = n) (hl : Sits partSh (Lo g) w a xs) (q : Nat) (hq : Apart q g r w) (hqc : w.cell? ⟨q, 0, none⟩ = some (.pointer (some ⟨g, 0, none⟩))) :
    Calls Try.prog 45 #[.pointer (some ⟨g, 0, none⟩), .slice a n cap, .func (.func 46) #[] #[.pointer (some ⟨q, 0, none⟩)]] w (WEnd g r w (out ++ encList encPart xs)) := by
  have HW := Lib.hid h
  have HL := Lib.hid hl
  have HN := Lib.hid hn
  have HQ := Lib.hid hq
  have HQC := Lib.hid hqc
  have hnm : n ≤ 9223372036854775807 := by rw [← hn]; exact hl.1
  have HNU := Lib.hid (number_any g r out (n : Int) w h ⟨by omega, by omega⟩)
  clear h hl hn
  go_enter Try.func45, Try.ntmps45
  go_wp2_with fail
  refine HNU.out.mono ?_
  rintro e w1 ⟨rfl, hw1⟩
  have H1 : Hid (Sev encPart g r w out xs 0 w1) := Sev.start (by rw [HN.out]; exact hw1)
  clear hw1 HNU
  go_wp2_with fail
  go_loopw [14] (fun i wr => ∃ k : Nat, i = .int .i64 k ∧ k ≤ n ∧ Hid (Sev encPart g r w out xs k wr)) (fun i _ => n - (intOf i).toNat)
  case atStart => exact ⟨0, rfl, Nat.zero_le _, H1⟩
  case round =>
    clear H1
    obtain ⟨k, rfl, hk, hrel⟩ := hrel
    by_cases hlt : k < n
    · have hlti : (k : Int) < (n : Int) := by omega
      have hkx : k < xs.length := by rw [HN.out]; exact hlt
      obtain ⟨r1, hs1, hr1, hk1⟩ := hrel.out
      obtain ⟨b, off, cs, rfl, hb, hc, hre⟩ := (HL.out.up (WTo.below HW.out hrel.out)).2 k hkx
      have HNX := Lib.hid (fun w2 => Sev.next (f := encPart) (w2 := w2) (out := out) hkx hr1 hk1)
      have HFU := Lib.hid (fun w2 => Sev.full (f := encPart) (w2 := w2) (xs := xs) (k := k) hr1 hk1 hs1)
      have HS1 := Lib.hid hs1
      have hgl := hs1.lt
      have hbl : b < wr.heap.size := Nat.lt_trans hb hgl
      obtain ⟨bb, f, v, g1, g2, _⟩ := hs1.st
      obtain ⟨rfl, hin, hin2⟩ := hre
      have c0 : wr.cell? ⟨b, off + k * 2, none⟩ = some (.int .i64 xs[k].line) := by simpa [partSh] using hc 0 _ rfl
      have c1 : wr.cell? ⟨b, off + k * 2 + 1, none⟩ = some (.int .i64 xs[k].times) := by simpa [partSh] using hc 1 _ rfl
      have HA := Lib.hid (hs1.fresh (.cells #[.int .i64 xs[k].line, .int .i64 xs[k].times] 99))
      obtain ⟨hq1, hqk⟩ := HQ.out.next hr1 hk1
      have hqd : ∀ j, (wr.alloc (.cells #[.int .i64 xs[k].line, .int .i64 xs[k].times] 99)).cell? ⟨q, j, none⟩ = wr.cell? ⟨q, j, none⟩ := fun j => ((Below.refl _ _).alloc (Nat.le_refl _) _ : Below wr.heap.size wr _).cell (p := ⟨q, j, none⟩) hq1.lt
      have HQ1 : Hid (Apart q g r1 (wr.alloc (.cells #[.int .i64 xs[k].line, .int .i64 xs[k].times] 99))) := ⟨Nat.lt_of_lt_of_le hq1.lt ((Below.refl _ _).alloc (Nat.le_refl _) _ : Below wr.heap.size wr (wr.alloc (.cells #[.int .i64 xs[k].line, .int .i64 xs[k].times] 99))).size, hq1.ne, hq1.row⟩
      have HQC1 : Hid ((wr.alloc (.cells #[.int .i64 xs[k].line, .int .i64 xs[k].times] 99)).cell? ⟨q, 0, none⟩ = some (.pointer (some ⟨g, 0, none⟩))) := (hqd 0).trans ((hqk 0).trans HQC.out)
      clear hq1 hqk hqd
      clear hs1 hr1 hk1 hrel hc g1
      generalize xs[k] = x at *
      have HB : Hid (Below wr.heap.size wr (wr.alloc (.cells #[.int .i64 x.line, .int .i64 x.times] 99))) := (Below.refl _ _).alloc (Nat.le_refl _) _
      have HS2 := Lib.hid (HS1.out.below HB.out)
      have HC := Lib.hid (part1_any g r1 _ _ HS2.out q HQ1.out HQC1.out x hin hin2)
      cases f with
      | true =>
        have HE := Lib.hid (HFU.out _ g2 HB.out)
        clear HFU HNX HC
        go_wp2_with fail
        go_end0
        exact ⟨rfl, HE.out⟩
      | false =>
        clear HFU
        go_wp2_with fail
        refine HC.out.mono ?_
        rintro e w5 ⟨rfl, hw5⟩
        have H5 := Lib.hid (HNX.out w5 (WTo.trans (.inl rfl) (KeptW.of_below HB.out) hw5))
        clear hw5 HNX HC HQ1 HQC1
        go_wp2_with fail
        go_roundw
        case rel => exact ⟨k + 1, by go_num, by omega, H5⟩
        case measure => simp [intOf]; omega
    · have hlti : ¬ (k : Int) < (n : Int) := by omega
      obtain rfl : k = n := by omega
      have HE : Hid (WTo g r w (out ++ encList encPart xs) wr) := Sev.done (by rw [HN.out]; exact hrel.out)
      clear hrel
      go_wp2_with fail
      go_end0
      exact ⟨rfl, HE.out⟩
end Go.Proofs.Ytgaipfkblfommaa
