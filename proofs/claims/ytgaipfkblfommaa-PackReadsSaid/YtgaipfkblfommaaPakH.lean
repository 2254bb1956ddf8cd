/- The writer: a reply. -/
import Derived.Test.YtgaipfkblfommaaPakG
set_option linter.unusedVariables false
set_option linter.unusedSimpArgs false
namespace Go.Proofs.Ytgaipfkblfommaa
set_option maxRecDepth 100000
open Go.RowKit

set_option maxHeartbeats 4000000 in
theorem reply_any (g : Nat) (r : Option Nat) (out : List UInt8) (w : World) (h : WS g r out w) (x : Reply) (a1 : Option Addr) (cap1 : Nat) (a2 : Option Addr) (cap2 : Nat) (hl : Sits lemSh (Lo g) w a1 x.lems) (hl2 : Sits clauseSh (Lo g) w a2 x.refute) :
    Calls Try.prog 20 #[.pointer (some ⟨g, 0, none⟩), .agg #[.bool x.yes, .slice a1 x.lems.length cap1, .slice a2 x.refute.length cap2]] w (WEnd g r w (out ++ encReply x)) := by
  have HA1 : Hid (Below w.heap.size w (w.alloc (.cells #[.pointer (some ⟨g, 0, none⟩)] 56))) := (Below.refl _ _).alloc (Nat.le_refl _) _
  have HA2 : Hid (Below (w.alloc (.cells #[.pointer (some ⟨g, 0, none⟩)] 56)).heap.size (w.alloc (.cells #[.pointer (some ⟨g, 0, none⟩)] 56)) ((w.alloc (.cells #[.pointer (some ⟨g, 0, none⟩)] 56)).alloc (.cells #[.bool x.yes, .slice a1 x.lems.length cap1, .slice a2 x.refute.length cap2] 50))) := (Below.refl _ _).alloc (Nat.le_refl _) _
  have HB : Hid (Below w.heap.size w ((w.alloc (.cells #[.pointer (some ⟨g, 0, none⟩)] 56)).alloc (.cells #[.bool x.yes, .slice a1 x.lems.length cap1, .slice a2 x.refute.length cap2] 50))) := HA1.out.trans (HA2.out.mono HA1.out.size)
  have HW := Lib.hid (h.below HB.out)
  obtain ⟨hq1, hqd⟩ := (h.fresh (.cells #[.pointer (some ⟨g, 0, none⟩)] 56)).below HA2.out
  have hx1 := (h.below HA1.out).fresh (.cells #[.bool x.yes, .slice a1 x.lems.length cap1, .slice a2 x.refute.length cap2] 50)
  rw [World.size_alloc] at hx1
  have HQ := Lib.hid hq1
  have HX1 := Lib.hid hx1
  have hp0 := (hqd 0).trans ((cell_of_row _ w.heap.size 0 _ _ _ (heap_alloc_new w _)).trans rfl)
  have HRW : ((w.alloc (.cells #[.pointer (some ⟨g, 0, none⟩)] 56)).alloc (.cells #[.bool x.yes, .slice a1 x.lems.length cap1, .slice a2 x.refute.length cap2] 50)).heap[w.heap.size + 1]? = some (.cells #[.bool x.yes, .slice a1 x.lems.length cap1, .slice a2 x.refute.length cap2] 50) := by have := heap_alloc_new (w.alloc (.cells #[.pointer (some ⟨g, 0, none⟩)] 56)) (.cells #[.bool x.yes, .slice a1 x.lems.length cap1, .slice a2 x.refute.length cap2] 50); rwa [World.size_alloc] at this
  have hd1 := cell_of_row ((w.alloc (.cells #[.pointer (some ⟨g, 0, none⟩)] 56)).alloc (.cells #[.bool x.yes, .slice a1 x.lems.length cap1, .slice a2 x.refute.length cap2] 50)) (w.heap.size + 1) 1 _ _ _ HRW
  have hd2 := cell_of_row ((w.alloc (.cells #[.pointer (some ⟨g, 0, none⟩)] 56)).alloc (.cells #[.bool x.yes, .slice a1 x.lems.length cap1, .slice a2 x.refute.length cap2] 50)) (w.heap.size + 1) 2 _ _ _ HRW
  clear HRW
  have hgl := h.lt
  have HBL := Lib.hid (HB.out.mono (Nat.le_of_lt h.lt))
  have HL1 := Lib.hid (hl.up HBL.out)
  have HL2 := Lib.hid (hl2.up HBL.out)
  have HXE : Hid (∀ w2, WTo g r ((w.alloc (.cells #[.pointer (some ⟨g, 0, none⟩)] 56)).alloc (.cells #[.bool x.yes, .slice a1 x.lems.length cap1, .slice a2 x.refute.length cap2] 50)) (out ++ encReply x) w2 → WTo g r w (out ++ encReply x) w2) := fun w2 h3 => WTo.trans (.inl rfl) (KeptW.of_below HB.out) h3
  clear h hqd hq1 hl hl2 hx1
  obtain ⟨yes, lems, refute⟩ := x
  simp only at *
  cases yes with
  | false =>
    have HP := Lib.hid (fun v (hv : v = 0) => put_is g r out v 0 _ HW.out (by rw [hv]; rfl))
    clear HL1 HL2 HQ HX1 hp0 hd1 hd2
    go_enter Try.func20, Try.ntmps20
    go_wp2_with fail
    refine (HP.out _ rfl).mono ?_
    rintro e w5 ⟨rfl, hw5⟩
    have HE := Lib.hid (HXE.out w5 hw5)
    clear hw5 HXE HP
    go_wp2_with fail
    go_end0
    exact ⟨rfl, HE.out⟩
  | true =>
    have HP := Lib.hid (fun v (hv : v = 1) => put_is g r out v 1 _ HW.out (by rw [hv]; rfl))
    go_enter Try.func20, Try.ntmps20
    go_wp2_with fail
    refine (HP.out _ rfl).mono ?_
    rintro e w5 ⟨rfl, hw5⟩
    have HBW := WTo.below HW.out hw5
    obtain ⟨r1, hs1, hr1, hk1⟩ := hw5
    obtain ⟨hq5, hqe⟩ := HQ.out.next hr1 hk1
    obtain ⟨ha5, hae⟩ := HX1.out.next hr1 hk1
    have p0 := (hqe 0).trans hp0
    have p1 := (hae 1).trans hd1
    have p2 := (hae 2).trans hd2
    have HW5 := Lib.hid hs1
    have HR5 := Lib.hid (And.intro hr1 hk1)
    have HQ5 := Lib.hid hq5
    have HA5 := Lib.hid ha5
    have HN2 := Lib.hid (sevLem_any g r1 _ w5 hs1 a1 lems.length cap1 lems rfl (HL1.out.up HBW) w.heap.size hq5 p0)
    have HL5 := Lib.hid (HL2.out.up HBW)
    clear hs1 hr1 hk1 hq5 hqe ha5 hae HP hp0 hd1 hd2 HBW HL1 HL2 HQ HX1
    go_wp2_with fail
    refine HN2.out.mono ?_
    rintro e w6 ⟨rfl, hw6⟩
    have HBW := WTo.below HW5.out hw6
    obtain ⟨r2, hs2, hr2, hk2⟩ := hw6
    obtain ⟨hq6, hqe⟩ := HQ5.out.next hr2 hk2
    obtain ⟨ha6, hae⟩ := HA5.out.next hr2 hk2
    have s0 := (hqe 0).trans p0
    have s2 := (hae 2).trans p2
    have HN3 := Lib.hid (sevClause_any g r2 _ w6 hs2 a2 refute.length cap2 refute rfl (HL5.out.up HBW) w.heap.size hq6 s0)
    have HXF : Hid (∀ w2, WTo g r2 w6 (out ++ [1] ++ encList encLem lems ++ encList encClause refute) w2 → WTo g r w (out ++ encReply ⟨true, lems, refute⟩) w2) := fun w2 h3 => HXE.out w2 (by
      have := WTo.trans HR5.out.1 HR5.out.2 (WTo.trans hr2 hk2 h3)
      unfold encReply
      rw [if_pos rfl]
      simpa [List.append_assoc] using this)
    clear hs2 hr2 hk2 hq6 hqe ha6 hae HN2 HBW HL5 HQ5 HA5 HR5 HW5 HXE p0 p1 p2
    go_wp2_with fail
    refine HN3.out.mono ?_
    rintro e w7 ⟨rfl, hw7⟩
    have HE := Lib.hid (HXF.out w7 hw7)
    clear hw7 HXF HN3
    go_wp2_with fail
    go_end0
    exact ⟨rfl, HE.out⟩
set_option maxHeartbeats 4000000 in
theorem sevReply_any (g : Nat) (r : Option Nat) (out : List UInt8) (w : World) (h : WS g r out w) (a : Option Addr) (n cap : Nat) (xs : List Reply) (hn : xs.length = n) (hl : Sits replySh (Lo g) w a xs) :
    Calls Try.prog 19 #[.pointer (some ⟨g, 0, none⟩), .slice a n cap, .func (.func 20) #[.pointer (some ⟨g, 0, none⟩)] #[]] w (WEnd g r w (out ++ encList encReply xs)) := by
  have HW := Lib.hid h
  have HL := Lib.hid hl
  have HN := Lib.hid hn
  have hnm : n ≤ 9223372036854775807 := by rw [← hn]; exact hl.1
  have HNU := Lib.hid (number_any g r out (n : Int) w h ⟨by omega, by omega⟩)
  clear h hl hn
  go_enter Try.func19, Try.ntmps19
  go_wp2_with fail
  refine HNU.out.mono ?_
  rintro e w1 ⟨rfl, hw1⟩
  have H1 : Hid (Sev encReply g r w out xs 0 w1) := Sev.start (by rw [HN.out]; exact hw1)
  clear hw1 HNU
  go_wp2_with fail
  go_loopw [14] (fun i wr => ∃ k : Nat, i = .int .i64 k ∧ k ≤ n ∧ Hid (Sev encReply g r w out xs k wr)) (fun i _ => n - (intOf i).toNat)
  case atStart => exact ⟨0, rfl, Nat.zero_le _, H1⟩
  case round =>
    clear H1
    obtain ⟨k, rfl, hk, hrel⟩ := hrel
    by_cases hlt : k < n
    · have hlti : (k : Int) < (n : Int) := by omega
      have hkx : k < xs.length := by rw [HN.out]; exact hlt
      obtain ⟨r1, hs1, hr1, hk1⟩ := hrel.out
      obtain ⟨b, off, cs, rfl, hb, hc, hre⟩ := (HL.out.up (WTo.below HW.out hrel.out)).2 k hkx
      have HNX := Lib.hid (fun w2 => Sev.next (f := encReply) (w2 := w2) (out := out) hkx hr1 hk1)
      have HFU := Lib.hid (fun w2 => Sev.full (f := encReply) (w2 := w2) (xs := xs) (k := k) hr1 hk1 hs1)
      have HS1 := Lib.hid hs1
      have hgl := hs1.lt
      have hbl : b < wr.heap.size := Nat.lt_trans hb hgl
      obtain ⟨bb, f, v, g1, g2, _⟩ := hs1.st
      obtain ⟨v1, v2, rfl, ⟨a1, cap1, rfl, hsl⟩, ⟨a2, cap2, rfl, hsl2⟩⟩ := hre
      have c0 : wr.cell? ⟨b, off + k * 3, none⟩ = some (.bool xs[k].yes) := by simpa [replySh] using hc 0 _ rfl
      have c1 : wr.cell? ⟨b, off + k * 3 + 1, none⟩ = some (.slice a1 xs[k].lems.length cap1) := by simpa [replySh] using hc 1 _ rfl
      have c2 : wr.cell? ⟨b, off + k * 3 + 2, none⟩ = some (.slice a2 xs[k].refute.length cap2) := by simpa [replySh] using hc 2 _ rfl
      clear hs1 hr1 hk1 hrel hc g1
      generalize xs[k] = x at *
      have HB : Hid (Below wr.heap.size wr (wr.alloc (.cells #[.bool x.yes, .slice a1 x.lems.length cap1, .slice a2 x.refute.length cap2] 50))) := (Below.refl _ _).alloc (Nat.le_refl _) _
      have HS2 := Lib.hid (HS1.out.below HB.out)
      have HC := Lib.hid (reply_any g r1 _ _ HS2.out x a1 cap1 a2 cap2 (hsl.up (HB.out.mono (Nat.le_of_lt hgl))) (hsl2.up (HB.out.mono (Nat.le_of_lt hgl))))
      cases f with
      | true =>
        have HE := Lib.hid (HFU.out _ g2 HB.out)
        clear HFU HNX HC
        go_wp2_with fail
        go_end0
        exact ⟨rfl, HE.out⟩
      | false =>
        clear HFU
        go_wp2_with fail
        refine HC.out.mono ?_
        rintro e w5 ⟨rfl, hw5⟩
        have H5 := Lib.hid (HNX.out w5 (WTo.trans (.inl rfl) (KeptW.of_below HB.out) hw5))
        clear hw5 HNX HC
        go_wp2_with fail
        go_roundw
        case rel => exact ⟨k + 1, by go_num, by omega, H5⟩
        case measure => simp [intOf]; omega
    · have hlti : ¬ (k : Int) < (n : Int) := by omega
      obtain rfl : k = n := by omega
      have HE : Hid (WTo g r w (out ++ encList encReply xs) wr) := Sev.done (by rw [HN.out]; exact hrel.out)
      clear hrel
      go_wp2_with fail
      go_end0
      exact ⟨rfl, HE.out⟩
end Go.Proofs.Ytgaipfkblfommaa
