/- The writer: a lemma, a clause. -/
import Derived.Test.YtgaipfkblfommaaPakF
set_option linter.unusedVariables false
set_option linter.unusedSimpArgs false
namespace Go.Proofs.Ytgaipfkblfommaa
set_option maxRecDepth 100000
open Go.RowKit

set_option maxHeartbeats 4000000 in
theorem lem1_any (g : Nat) (r : Option Nat) (out : List UInt8) (w : World) (h : WS g r out w) (q : Nat) (hq : Apart q g r w) (hqc : w.cell? ⟨q, 0, none⟩ = some (.pointer (some ⟨g, 0, none⟩))) (x : Lem) (a1 : Option Addr) (cap1 : Nat) (a2 : Option Addr) (cap2 : Nat) (hl : Sits intSh (Lo g) w a1 x.lits) (hl2 : Sits stepSh (Lo g) w a2 x.steps) :
    Calls Try.prog 29 #[.agg #[.slice a1 x.lits.length cap1, .slice a2 x.steps.length cap2], .pointer (some ⟨q, 0, none⟩)] w (WEnd g r w (out ++ encLem x)) := by
  have HB : Hid (Below w.heap.size w (w.alloc (.cells #[.slice a1 x.lits.length cap1, .slice a2 x.steps.length cap2] 77))) := (Below.refl _ _).alloc (Nat.le_refl _) _
  have HW := Lib.hid (h.below HB.out)
  have HA := Lib.hid (h.fresh (.cells #[.slice a1 x.lits.length cap1, .slice a2 x.steps.length cap2] 77))
  obtain ⟨hq1, hqd⟩ := hq.below HB.out
  have HQ := Lib.hid hq1
  have hqc1 := (hqd 0).trans hqc
  have hgl := h.lt
  have hql := hq.lt
  have HBL := Lib.hid (HB.out.mono (Nat.le_of_lt h.lt))
  have HN := Lib.hid (sevInt_any g r out _ (h.below HB.out) a1 x.lits.length cap1 x.lits rfl (hl.up HBL.out))
  have HL2 := Lib.hid (hl2.up HBL.out)
  have hb1 := cell_of_row (w.alloc (.cells #[.slice a1 x.lits.length cap1, .slice a2 x.steps.length cap2] 77)) w.heap.size 1 _ _ _ (heap_alloc_new w _)
  have HX : Hid (∀ r1 w1 w2, (r1 = r ∨ ∃ q, r1 = some q ∧ (w.alloc (.cells #[.slice a1 x.lits.length cap1, .slice a2 x.steps.length cap2] 77)).heap.size ≤ q) → KeptW g r (w.alloc (.cells #[.slice a1 x.lits.length cap1, .slice a2 x.steps.length cap2] 77)) w1 → WTo g r1 w1 (out ++ encList num x.lits ++ encList encStep x.steps) w2 → WTo g r w (out ++ encLem x) w2) := fun r1 w1 w2 h1 h2 h3 => by
    have := WTo.trans (.inl rfl) (KeptW.of_below HB.out) (WTo.trans h1 h2 h3)
    unfold encLem encClause
    rwa [List.append_assoc] at this
  clear h hqd hq1 hl hl2
  go_enter Try.func29, Try.ntmps29
  go_wp2_with fail
  refine HN.out.mono ?_
  rintro e w5 ⟨rfl, hw5⟩
  have HBW := WTo.below HW.out hw5
  obtain ⟨r1, hs1, hr1, hk1⟩ := hw5
  obtain ⟨hq5, hqe⟩ := HQ.out.next hr1 hk1
  obtain ⟨ha5, hae⟩ := HA.out.next hr1 hk1
  have p0 := (hqe 0).trans hqc1
  have p1 := (hae 1).trans hb1
  have HN2 := Lib.hid (sevStep_any g r1 _ w5 hs1 a2 x.steps.length cap2 x.steps rfl (HL2.out.up HBW))
  have HXF := Lib.hid (fun w2 => HX.out r1 w5 w2 hr1 hk1)
  clear hs1 hr1 hk1 hq5 hqe ha5 hae HN hqc1 hb1 hqc HX HBW
  go_wp2_with fail
  refine HN2.out.mono ?_
  rintro e w6 ⟨rfl, hw6⟩
  have HE := Lib.hid (HXF.out w6 hw6)
  clear hw6 HXF HN2
  go_wp2_with fail
  go_end0
  exact ⟨rfl, HE.out⟩
set_option maxHeartbeats 4000000 in
theorem sevLem_any (g : Nat) (r : Option Nat) (out : List UInt8) (w : World) (h : WS g r out w) (a : Option Addr) (n cap : Nat) (xs : List Lem) (hn : xs.length = n) (hl : Sits lemSh (Lo g) w a xs) (q : Nat) (hq : Apart q g r w) (hqc : w.cell? ⟨q, 0, none⟩ = some (.pointer (some ⟨g, 0, none⟩))) :
    Calls Try.prog 28 #[.pointer (some ⟨g, 0, none⟩), .slice a n cap, .func (.func 29) #[] #[.pointer (some ⟨q, 0, none⟩)]] w (WEnd g r w (out ++ encList encLem xs)) := by
  have HW := Lib.hid h
  have HL := Lib.hid hl
  have HN := Lib.hid hn
  have HQ := Lib.hid hq
  have HQC := Lib.hid hqc
  have hnm : n ≤ 9223372036854775807 := by rw [← hn]; exact hl.1
  have HNU := Lib.hid (number_any g r out (n : Int) w h ⟨by omega, by omega⟩)
  clear h hl hn
  go_enter Try.func28, Try.ntmps28
  go_wp2_with fail
  refine HNU.out.mono ?_
  rintro e w1 ⟨rfl, hw1⟩
  have H1 : Hid (Sev encLem g r w out xs 0 w1) := Sev.start (by rw [HN.out]; exact hw1)
  clear hw1 HNU
  go_wp2_with fail
  go_loopw [14] (fun i wr => ∃ k : Nat, i = .int .i64 k ∧ k ≤ n ∧ Hid (Sev encLem g r w out xs k wr)) (fun i _ => n - (intOf i).toNat)
  case atStart => exact ⟨0, rfl, Nat.zero_le _, H1⟩
  case round =>
    clear H1
    obtain ⟨k, rfl, hk, hrel⟩ := hrel
    by_cases hlt : k < n
    · have hlti : (k : Int) < (n : Int) := by omega
      have hkx : k < xs.length := by rw [HN.out]; exact hlt
      obtain ⟨r1, hs1, hr1, hk1⟩ := hrel.out
      obtain ⟨b, off, cs, rfl, hb, hc, hre⟩ := (HL.out.up (WTo.below HW.out hrel.out)).2 k hkx
      have HNX := Lib.hid (fun w2 => Sev.next (f := encLem) (w2 := w2) (out := out) hkx hr1 hk1)
      have HFU := Lib.hid (fun w2 => Sev.full (f := encLem) (w2 := w2) (xs := xs) (k := k) hr1 hk1 hs1)
      have HS1 := Lib.hid hs1
      have hgl := hs1.lt
      have hbl : b < wr.heap.size := Nat.lt_trans hb hgl
      obtain ⟨bb, f, v, g1, g2, _⟩ := hs1.st
      obtain ⟨v1, v2, rfl, ⟨a1, cap1, rfl, hsl⟩, ⟨a2, cap2, rfl, hsl2⟩⟩ := hre
      have c0 : wr.cell? ⟨b, off + k * 2, none⟩ = some (.slice a1 xs[k].lits.length cap1) := by simpa [lemSh] using hc 0 _ rfl
      have c1 : wr.cell? ⟨b, off + k * 2 + 1, none⟩ = some (.slice a2 xs[k].steps.length cap2) := by simpa [lemSh] using hc 1 _ rfl
      obtain ⟨hq1, hqk⟩ := HQ.out.next hr1 hk1
      have hqd : ∀ j, (wr.alloc (.cells #[.slice a1 xs[k].lits.length cap1, .slice a2 xs[k].steps.length cap2] 77)).cell? ⟨q, j, none⟩ = wr.cell? ⟨q, j, none⟩ := fun j => ((Below.refl _ _).alloc (Nat.le_refl _) _ : Below wr.heap.size wr _).cell (p := ⟨q, j, none⟩) hq1.lt
      have HQ1 : Hid (Apart q g r1 (wr.alloc (.cells #[.slice a1 xs[k].lits.length cap1, .slice a2 xs[k].steps.length cap2] 77))) := ⟨Nat.lt_of_lt_of_le hq1.lt ((Below.refl _ _).alloc (Nat.le_refl _) _ : Below wr.heap.size wr (wr.alloc (.cells #[.slice a1 xs[k].lits.length cap1, .slice a2 xs[k].steps.length cap2] 77))).size, hq1.ne, hq1.row⟩
      have HQC1 : Hid ((wr.alloc (.cells #[.slice a1 xs[k].lits.length cap1, .slice a2 xs[k].steps.length cap2] 77)).cell? ⟨q, 0, none⟩ = some (.pointer (some ⟨g, 0, none⟩))) := (hqd 0).trans ((hqk 0).trans HQC.out)
      clear hq1 hqk hqd
      clear hs1 hr1 hk1 hrel hc g1
      generalize xs[k] = x at *
      have HB : Hid (Below wr.heap.size wr (wr.alloc (.cells #[.slice a1 x.lits.length cap1, .slice a2 x.steps.length cap2] 77))) := (Below.refl _ _).alloc (Nat.le_refl _) _
      have HS2 := Lib.hid (HS1.out.below HB.out)
      have HC := Lib.hid (lem1_any g r1 _ _ HS2.out q HQ1.out HQC1.out x a1 cap1 a2 cap2 (hsl.up (HB.out.mono (Nat.le_of_lt hgl))) (hsl2.up (HB.out.mono (Nat.le_of_lt hgl))))
      cases f with
      | true =>
        have HE := Lib.hid (HFU.out _ g2 HB.out)
        clear HFU HNX HC
        go_wp2_with fail
        go_end0
        exact ⟨rfl, HE.out⟩
      | false =>
        clear HFU
        go_wp2_with fail
        refine HC.out.mono ?_
        rintro e w5 ⟨rfl, hw5⟩
        have H5 := Lib.hid (HNX.out w5 (WTo.trans (.inl rfl) (KeptW.of_below HB.out) hw5))
        clear hw5 HNX HC HQ1 HQC1
        go_wp2_with fail
        go_roundw
        case rel => exact ⟨k + 1, by go_num, by omega, H5⟩
        case measure => simp [intOf]; omega
    · have hlti : ¬ (k : Int) < (n : Int) := by omega
      obtain rfl : k = n := by omega
      have HE : Hid (WTo g r w (out ++ encList encLem xs) wr) := Sev.done (by rw [HN.out]; exact hrel.out)
      clear hrel
      go_wp2_with fail
      go_end0
      exact ⟨rfl, HE.out⟩
set_option maxHeartbeats 4000000 in
theorem clause1_any (g : Nat) (r : Option Nat) (out : List UInt8) (w : World) (h : WS g r out w) (q : Nat) (hq : Apart q g r w) (hqc : w.cell? ⟨q, 0, none⟩ = some (.pointer (some ⟨g, 0, none⟩))) (x : List Int) (a : Option Addr) (cap : Nat) (hl : Sits intSh (Lo g) w a x) :
    Calls Try.prog 34 #[.slice a x.length cap, .pointer (some ⟨q, 0, none⟩)] w (WEnd g r w (out ++ encClause x)) := by
  have HN := Lib.hid (sevInt_any g r out _ h a x.length cap x rfl hl)
  clear h hl
  go_enter Try.func34, Try.ntmps34
  go_wp2_with fail
  refine HN.out.mono ?_
  rintro e w5 ⟨rfl, hw5⟩
  have HE := Lib.hid hw5
  clear hw5 HN
  go_wp2_with fail
  go_end0
  exact ⟨rfl, HE.out⟩
set_option maxHeartbeats 4000000 in
theorem sevClause_any (g : Nat) (r : Option Nat) (out : List UInt8) (w : World) (h : WS g r out w) (a : Option Addr) (n cap : Nat) (xs : List (List Int)) (hn : xs.length = n) (hl : Sits clauseSh (Lo g) w a xs) (q : Nat) (hq : Apart q g r w) (hqc : w.cell? ⟨q, 0, none⟩ = some (.pointer (some ⟨g, 0, none⟩))) :
    Calls Try.prog 33 #[.pointer (some ⟨g, 0, none⟩), .slice a n cap, .func (.func 34) #[] #[.pointer (some ⟨q, 0, none⟩)]] w (WEnd g r w (out ++ encList encClause xs)) := by
  have HW := Lib.hid h
  have HL := Lib.hid hl
  have HN := Lib.hid hn
  have HQ := Lib.hid hq
  have HQC := Lib.hid hqc
  have hnm : n ≤ 9223372036854775807 := by rw [← hn]; exact hl.1
  have HNU := Lib.hid (number_any g r out (n : Int) w h ⟨by omega, by omega⟩)
  clear h hl hn
  go_enter Try.func33, Try.ntmps33
  go_wp2_with fail
  refine HNU.out.mono ?_
  rintro e w1 ⟨rfl, hw1⟩
  have H1 : Hid (Sev encClause g r w out xs 0 w1) := Sev.start (by rw [HN.out]; exact hw1)
  clear hw1 HNU
  go_wp2_with fail
  go_loopw [14] (fun i wr => ∃ k : Nat, i = .int .i64 k ∧ k ≤ n ∧ Hid (Sev encClause g r w out xs k wr)) (fun i _ => n - (intOf i).toNat)
  case atStart => exact ⟨0, rfl, Nat.zero_le _, H1⟩
  case round =>
    clear H1
    obtain ⟨k, rfl, hk, hrel⟩ := hrel
    by_cases hlt : k < n
    · have hlti : (k : Int) < (n : Int) := by omega
      have hkx : k < xs.length := by rw [HN.out]; exact hlt
      obtain ⟨r1, hs1, hr1, hk1⟩ := hrel.out
      obtain ⟨b, off, cs, rfl, hb, hc, hre⟩ := (HL.out.up (WTo.below HW.out hrel.out)).2 k hkx
      have HNX := Lib.hid (fun w2 => Sev.next (f := encClause) (w2 := w2) (out := out) hkx hr1 hk1)
      have HFU := Lib.hid (fun w2 => Sev.full (f := encClause) (w2 := w2) (xs := xs) (k := k) hr1 hk1 hs1)
      have HS1 := Lib.hid hs1
      have hgl := hs1.lt
      have hbl : b < wr.heap.size := Nat.lt_trans hb hgl
      obtain ⟨bb, f, v, g1, g2, _⟩ := hs1.st
      obtain ⟨v1, rfl, ⟨a1, cap1, rfl, hsl⟩⟩ := hre
      have c0 : wr.cell? ⟨b, off + k, none⟩ = some (.slice a1 xs[k].length cap1) := by simpa [clauseSh] using hc 0 _ rfl
      obtain ⟨hq1, hqk⟩ := HQ.out.next hr1 hk1
      have hqd : ∀ j, wr.cell? ⟨q, j, none⟩ = wr.cell? ⟨q, j, none⟩ := fun j => (Below.refl _ _ : Below wr.heap.size wr _).cell (p := ⟨q, j, none⟩) hq1.lt
      have HQ1 : Hid (Apart q g r1 wr) := ⟨Nat.lt_of_lt_of_le hq1.lt (Below.refl _ _ : Below wr.heap.size wr wr).size, hq1.ne, hq1.row⟩
      have HQC1 : Hid (wr.cell? ⟨q, 0, none⟩ = some (.pointer (some ⟨g, 0, none⟩))) := (hqd 0).trans ((hqk 0).trans HQC.out)
      clear hq1 hqk hqd
      clear hs1 hr1 hk1 hrel hc g1
      generalize xs[k] = x at *
      have HB : Hid (Below wr.heap.size wr wr) := Below.refl _ _
      have HS2 := Lib.hid (HS1.out.below HB.out)
      have HC := Lib.hid (clause1_any g r1 _ _ HS2.out q HQ1.out HQC1.out x a1 cap1 hsl)
      cases f with
      | true =>
        have HE := Lib.hid (HFU.out _ g2 HB.out)
        clear HFU HNX HC
        go_wp2_with fail
        go_end0
        exact ⟨rfl, HE.out⟩
      | false =>
        clear HFU
        go_wp2_with fail
        refine HC.out.mono ?_
        rintro e w5 ⟨rfl, hw5⟩
        have H5 := Lib.hid (HNX.out w5 (WTo.trans (.inl rfl) (KeptW.of_below HB.out) hw5))
        clear hw5 HNX HC HQ1 HQC1
        go_wp2_with fail
        go_roundw
        case rel => exact ⟨k + 1, by go_num, by omega, H5⟩
        case measure => simp [intOf]; omega
    · have hlti : ¬ (k : Int) < (n : Int) := by omega
      obtain rfl : k = n := by omega
      have HE : Hid (WTo g r w (out ++ encList encClause xs) wr) := Sev.done (by rw [HN.out]; exact hrel.out)
      clear hrel
      go_wp2_with fail
      go_end0
      exact ⟨rfl, HE.out⟩
end Go.Proofs.Ytgaipfkblfommaa
