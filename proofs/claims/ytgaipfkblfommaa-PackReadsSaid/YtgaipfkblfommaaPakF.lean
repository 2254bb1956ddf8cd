/- The writer: a step. -/
import Derived.Test.YtgaipfkblfommaaPakE
set_option linter.unusedVariables false
set_option linter.unusedSimpArgs false
namespace Go.Proofs.Ytgaipfkblfommaa
set_option maxRecDepth 100000
open Go.RowKit

set_option maxHeartbeats 4000000 in
theorem step_any (g : Nat) (r : Option Nat) (out : List UInt8) (w : World) (h : WS g r out w) (x : Step) (a : Option Addr) (cap : Nat) (hd : i64 x.div) (hl : Sits partSh (Lo g) w a x.parts) :
    Calls Try.prog 32 #[.pointer (some ⟨g, 0, none⟩), .agg #[.slice a x.parts.length cap, .int .i64 x.div]] w (WEnd g r w (out ++ encStep x)) := by
  have HA1 : Hid (Below w.heap.size w (w.alloc (.cells #[.pointer (some ⟨g, 0, none⟩)] 56))) := (Below.refl _ _).alloc (Nat.le_refl _) _
  have HA2 : Hid (Below (w.alloc (.cells #[.pointer (some ⟨g, 0, none⟩)] 56)).heap.size (w.alloc (.cells #[.pointer (some ⟨g, 0, none⟩)] 56)) ((w.alloc (.cells #[.pointer (some ⟨g, 0, none⟩)] 56)).alloc (.cells #[.slice a x.parts.length cap, .int .i64 x.div] 80))) := (Below.refl _ _).alloc (Nat.le_refl _) _
  have HB : Hid (Below w.heap.size w ((w.alloc (.cells #[.pointer (some ⟨g, 0, none⟩)] 56)).alloc (.cells #[.slice a x.parts.length cap, .int .i64 x.div] 80))) := HA1.out.trans (HA2.out.mono HA1.out.size)
  have HW := Lib.hid h
  obtain ⟨hq1, hqd⟩ := (h.fresh (.cells #[.pointer (some ⟨g, 0, none⟩)] 56)).below HA2.out
  have hx1 := (h.below HA1.out).fresh (.cells #[.slice a x.parts.length cap, .int .i64 x.div] 80)
  rw [World.size_alloc] at hx1
  have HQ := Lib.hid hq1
  have HX1 := Lib.hid hx1
  have hp0 := (hqd 0).trans ((cell_of_row _ w.heap.size 0 _ _ _ (heap_alloc_new w _)).trans rfl)
  have hd0 := cell_of_row ((w.alloc (.cells #[.pointer (some ⟨g, 0, none⟩)] 56)).alloc (.cells #[.slice a x.parts.length cap, .int .i64 x.div] 80)) (w.heap.size + 1) 1 _ _ _ (by have := heap_alloc_new (w.alloc (.cells #[.pointer (some ⟨g, 0, none⟩)] 56)) (.cells #[.slice a x.parts.length cap, .int .i64 x.div] 80); rwa [World.size_alloc] at this)
  have hgl := h.lt
  have HSV := Lib.hid (sevPart_any g r out _ (h.below HB.out) a x.parts.length cap x.parts rfl (hl.up (HB.out.mono (Nat.le_of_lt h.lt))) w.heap.size hq1 hp0)
  have HD := Lib.hid hd
  have HXE : Hid (∀ r1 w1 w2, (r1 = r ∨ ∃ q, r1 = some q ∧ ((w.alloc (.cells #[.pointer (some ⟨g, 0, none⟩)] 56)).alloc (.cells #[.slice a x.parts.length cap, .int .i64 x.div] 80)).heap.size ≤ q) → KeptW g r ((w.alloc (.cells #[.pointer (some ⟨g, 0, none⟩)] 56)).alloc (.cells #[.slice a x.parts.length cap, .int .i64 x.div] 80)) w1 → WTo g r1 w1 (out ++ encList encPart x.parts ++ num x.div) w2 → WTo g r w (out ++ encStep x) w2) := fun r1 w1 w2 h1 h2 h3 => by
    have := WTo.trans (.inl rfl) (KeptW.of_below HB.out) (WTo.trans h1 h2 h3)
    unfold encStep
    rwa [List.append_assoc] at this
  clear h hqd hq1 hl hx1
  generalize x.parts.length = m at *
  go_enter Try.func32, Try.ntmps32
  go_wp2_with fail
  refine HSV.out.mono ?_
  rintro e w5 ⟨rfl, r1, hs1, hr1, hk1⟩
  obtain ⟨hq5, hqe⟩ := HQ.out.next hr1 hk1
  obtain ⟨ha5, hae⟩ := HX1.out.next hr1 hk1
  have p0 := (hqe 0).trans hp0
  have p1 := (hae 1).trans hd0
  have HN2 := Lib.hid (number_any g r1 _ x.div w5 hs1 HD.out)
  have HXF := Lib.hid (fun w2 => HXE.out r1 w5 w2 hr1 hk1)
  clear hs1 hr1 hk1 hq5 hqe ha5 hae HSV hp0 hd0 HXE
  go_wp2_with fail
  refine HN2.out.mono ?_
  rintro e w6 ⟨rfl, hw6⟩
  have HE := Lib.hid (HXF.out w6 hw6)
  clear hw6 HXF HN2
  go_wp2_with fail
  go_end0
  exact ⟨rfl, HE.out⟩
set_option maxHeartbeats 4000000 in
theorem sevStep_any (g : Nat) (r : Option Nat) (out : List UInt8) (w : World) (h : WS g r out w) (a : Option Addr) (n cap : Nat) (xs : List Step) (hn : xs.length = n) (hl : Sits stepSh (Lo g) w a xs) :
    Calls Try.prog 31 #[.pointer (some ⟨g, 0, none⟩), .slice a n cap, .func (.func 32) #[.pointer (some ⟨g, 0, none⟩)] #[]] w (WEnd g r w (out ++ encList encStep xs)) := by
  have HW := Lib.hid h
  have HL := Lib.hid hl
  have HN := Lib.hid hn
  have hnm : n ≤ 9223372036854775807 := by rw [← hn]; exact hl.1
  have HNU := Lib.hid (number_any g r out (n : Int) w h ⟨by omega, by omega⟩)
  clear h hl hn
  go_enter Try.func31, Try.ntmps31
  go_wp2_with fail
  refine HNU.out.mono ?_
  rintro e w1 ⟨rfl, hw1⟩
  have H1 : Hid (Sev encStep g r w out xs 0 w1) := Sev.start (by rw [HN.out]; exact hw1)
  clear hw1 HNU
  go_wp2_with fail
  go_loopw [14] (fun i wr => ∃ k : Nat, i = .int .i64 k ∧ k ≤ n ∧ Hid (Sev encStep g r w out xs k wr)) (fun i _ => n - (intOf i).toNat)
  case atStart => exact ⟨0, rfl, Nat.zero_le _, H1⟩
  case round =>
    clear H1
    obtain ⟨k, rfl, hk, hrel⟩ := hrel
    by_cases hlt : k < n
    · have hlti : (k : Int) < (n : Int) := by omega
      have hkx : k < xs.length := by rw [HN.out]; exact hlt
      obtain ⟨r1, hs1, hr1, hk1⟩ := hrel.out
      obtain ⟨b, off, cs, rfl, hb, hc, hre⟩ := (HL.out.up (WTo.below HW.out hrel.out)).2 k hkx
      have HNX := Lib.hid (fun w2 => Sev.next (f := encStep) (w2 := w2) (out := out) hkx hr1 hk1)
      have HFU := Lib.hid (fun w2 => Sev.full (f := encStep) (w2 := w2) (xs := xs) (k := k) hr1 hk1 hs1)
      have HS1 := Lib.hid hs1
      have hgl := hs1.lt
      have hbl : b < wr.heap.size := Nat.lt_trans hb hgl
      obtain ⟨bb, f, v, g1, g2, _⟩ := hs1.st
      obtain ⟨v, rfl, hin, sa, scap, rfl, hsl⟩ := hre
      have c0 : wr.cell? ⟨b, off + k * 2, none⟩ = some (.slice sa xs[k].parts.length scap) := by simpa [stepSh] using hc 0 _ rfl
      have c1 : wr.cell? ⟨b, off + k * 2 + 1, none⟩ = some (.int .i64 xs[k].div) := by simpa [stepSh] using hc 1 _ rfl
      clear hs1 hr1 hk1 hrel hc g1
      generalize xs[k] = x at *
      have HB : Hid (Below wr.heap.size wr (wr.alloc (.cells #[.slice sa x.parts.length scap, .int .i64 x.div] 80))) := (Below.refl _ _).alloc (Nat.le_refl _) _
      have HS2 := Lib.hid (HS1.out.below HB.out)
      have HC := Lib.hid (step_any g r1 _ _ HS2.out x sa scap hin (hsl.up (HB.out.mono (Nat.le_of_lt hgl))))
      cases f with
      | true =>
        have HE := Lib.hid (HFU.out _ g2 HB.out)
        clear HFU HNX HC
        go_wp2_with fail
        go_end0
        exact ⟨rfl, HE.out⟩
      | false =>
        clear HFU
        go_wp2_with fail
        refine HC.out.mono ?_
        rintro e w5 ⟨rfl, hw5⟩
        have H5 := Lib.hid (HNX.out w5 (WTo.trans (.inl rfl) (KeptW.of_below HB.out) hw5))
        clear hw5 HNX HC
        go_wp2_with fail
        go_roundw
        case rel => exact ⟨k + 1, by go_num, by omega, H5⟩
        case measure => simp [intOf]; omega
    · have hlti : ¬ (k : Int) < (n : Int) := by omega
      obtain rfl : k = n := by omega
      have HE : Hid (WTo g r w (out ++ encList encStep xs) wr) := Sev.done (by rw [HN.out]; exact hrel.out)
      clear hrel
      go_wp2_with fail
      go_end0
      exact ⟨rfl, HE.out⟩
end Go.Proofs.Ytgaipfkblfommaa
