/- HeapDoes: its walk. -/
import Derived.Test.YteiomafciignkaaHepO
set_option linter.unusedVariables false
set_option linter.unusedSimpArgs false
namespace Go.Proofs.Yteiomafciignkaa
set_option maxRecDepth 100000
open Go.RowKit

theorem setEnd_same {hs : List HC} {c : HC} {os : List HC} (hst : Stand hs) (h : SetIs hs c os) : os = insF (dropL hs (hkey c)) c := by
  obtain ⟨i, b, hf, rfl⟩ := h
  exact (setL_is hst hf).symm
set_option maxHeartbeats 8000000 in
theorem heapDoes_any (ad : Option Addr) (n cap : Nat) (hs : List HC) (a : Int) (f : ByteArray) (v : Int) (w : World) (h : CameH w ad n cap hs) :
    Calls Try.prog 4 #[.slice ad n cap, .int .i64 a, .string f, .int .i64 v] w fun e w' => e = .returned (.bool true) ∧ Below w.heap.size w w' := by
  have HUP := Lib.hid (up_said17 w)
  have hnm : n ≤ 9223372036854775807 := by have := h.hc; omega
  have HSA := Lib.hid (fun W (hb : Below w.heap.size w W) => stands_any hs ad n cap W h.hn hnm (h.lies.up hb))
  have HH := Lib.hid h
  have n1 := fun t v W => Try.eqIface t v W
  have n2 := fun W => Try.eqNil W
  have n3 := fun W => Try.neCode 15 15 W
  have n4 : (!((15 : Int) == 15)) = false := by decide
  by_cases hbig : 500 < n
  · have hbigi : (n : Int) > 500 := by omega
    have hbigj : (500 : Int) < (n : Int) := by omega
    clear h
    go_enter Try.func4, Try.ntmps4
    go_wp2_with fail
    refine HUP.out.mono ?_
    rintro e w1 ⟨rfl, hb1⟩
    have B1 := Lib.hid hb1
    clear hb1 HUP
    go_wp2_with fail
    refine (HSA.out _ B1.out).mono ?_
    rintro e w2 ⟨b, rfl, _, hb2⟩
    have B2 := Lib.hid (B1.out.trans (hb2.mono B1.out.size))
    clear hb2 HSA
    go_wp2_with fail
    go_ret
    exact ⟨rfl, B2.out⟩
  · have hbigi : ¬ (n : Int) > 500 := by omega
    have hbigj : ¬ (500 : Int) < (n : Int) := by omega
    -- the part behind the head
    have key : Hid (∀ w2 : World, Below w.heap.size w w2 → Stand hs → (∀ i, i < hs.length → -9223372036854775808 ≤ (hs.getD i hc0).a ∧ (hs.getD i hc0).a ≤ 9223372036854775806) →
        (∀ W, Below w.heap.size w W → Calls Try.prog 12 #[.slice ad n cap, .int .i64 a, .string f] W (GetEnd hs (a, f.toList) W)) ∧
        (∀ W, Below w.heap.size w W → Calls Try.prog 13 #[.slice ad n cap, .int .i64 a, .string f] W (DropEnd hs (a, f.toList) W)) ∧
        (∀ W, Below w.heap.size w W → Calls Try.prog 14 #[.slice ad n cap, .int .i64 a, .string f] W (RGetEnd hs (a, f.toList) W)) ∧
        (∀ W, Below w.heap.size w W → Calls Try.prog 16 #[.slice ad n cap, .int .i64 a, .string f] W (RowEnd (dropL hs (a, f.toList)) W)) ∧
        (∀ W, Below w.heap.size w W → Calls Try.prog 17 #[.slice ad n cap, .int .i64 a, .string f, .int .i64 v] W (SetEnd hs ⟨a, f, v⟩ W)) ∧
        (∀ W, Below w.heap.size w W → Calls Try.prog 18 #[.slice ad n cap, .int .i64 a, .string f, .int .i64 v] W (RowEnd (insF (dropL hs (a, f.toList)) ⟨a, f, v⟩) W)) ∧
        (∀ W, Below w.heap.size w W → Calls Try.prog 19 #[.slice ad n cap] W fun e w' => e = .returned (.int .i64 (topI hs n + 1)) ∧ W = w') ∧
        (∀ W, Below w.heap.size w W → Calls Try.prog 20 #[.slice ad n cap] W fun e w' => e = .returned (.int .i64 (topI hs n + 1)) ∧ W = w')) := fun _ _ hst hin =>
      ⟨fun W hW => get_any hs ad n cap a f W h.hn (by omega) (h.lies.up hW) hst, fun W hW => drop_any hs ad n cap a f W h.hn (by omega) h.hc (h.lies.up hW) hst,
        fun W hW => rget_any hs ad n cap a f W h.hn (by omega) (h.lies.up hW), fun W hW => rdrop_any hs ad n cap a f W h.hn (by omega) (h.lies.up hW),
        fun W hW => set_any hs ad n cap a f v W h.hn (by omega) h.hc h.nil h.sp (h.lies.up hW) hst, fun W hW => rset_any hs ad n cap a f v W h.hn (by omega) (h.lies.up hW),
        fun W hW => by
          have := fresh_any hs ad n cap W h.hn (by omega) (h.lies.up hW) hin
          have e : (if n = 0 then 1 else (hs.getD (n - 1) hc0).a + 1) = topI hs n + 1 := by
            by_cases h0 : n = 0
            · rw [if_pos h0, h0]; rfl
            · rw [if_neg h0]
              obtain ⟨m, rfl⟩ : ∃ m, n = m + 1 := ⟨n - 1, by omega⟩
              rw [topI_last hst m (by rw [h.hn]; exact Nat.le_refl _), Nat.add_sub_cancel]
          rw [e] at this
          exact this,
        fun W hW => rfresh_any hs ad n cap W h.hn (by omega) (h.lies.up hW) hin⟩
    have HREST : Hid (∀ w2 : World, Below w.heap.size w w2 → Stand hs → (∀ i, i < hs.length → -9223372036854775808 ≤ (hs.getD i hc0).a ∧ (hs.getD i hc0).a ≤ 9223372036854775806) → True) := fun _ _ _ _ => trivial
    clear HREST
    clear h
    go_enter Try.func4, Try.ntmps4
    go_wp2_with fail
    refine HUP.out.mono ?_
    rintro e w1 ⟨rfl, hb1⟩
    have B1 := Lib.hid hb1
    clear hb1 HUP
    go_wp2_with fail
    refine (HSA.out _ B1.out).mono ?_
    rintro e w2 ⟨b, rfl, hst, hb2⟩
    have B2 := Lib.hid (B1.out.trans (hb2.mono B1.out.size))
    clear hb2 HSA
    cases b with
    | false =>
      clear hst key
      go_wp2_with fail
      go_ret
      exact ⟨rfl, B2.out⟩
    | true =>
      have HST := Lib.hid (hst.1 rfl)
      clear hst
      have hway : n = 0 ∨ (∃ m, n = m + 1 ∧ (hs.getD m hc0).a = 9223372036854775807) ∨ ∃ m, n = m + 1 ∧ (hs.getD m hc0).a ≠ 9223372036854775807 := by
        cases n with
        | zero => exact .inl rfl
        | succ m =>
          by_cases e : (hs.getD m hc0).a = 9223372036854775807
          · exact .inr (.inl ⟨m, rfl, e⟩)
          · exact .inr (.inr ⟨m, rfl, e⟩)
      rcases hway with rfl | ⟨m, rfl, hmax⟩ | ⟨m, rfl, hmax⟩
      · have hin : ∀ i, i < hs.length → -9223372036854775808 ≤ (hs.getD i hc0).a ∧ (hs.getD i hc0).a ≤ 9223372036854775806 := fun i hi => by rw [HH.out.hn] at hi; exact absurd hi (Nat.not_lt_zero i)
        obtain ⟨k1, k2, k3, k4, k5, k6, k7, k8⟩ := key.out w2 B2.out HST.out hin
        have HGE := Lib.hid k1
        have HDR := Lib.hid k2
        have HRG := Lib.hid k3
        have HRD := Lib.hid k4
        have HSE := Lib.hid k5
        have HRS := Lib.hid k6
        have HFR := Lib.hid k7
        have HRF := Lib.hid k8
        clear k1 k2 k3 k4 k5 k6 k7 k8 key hin
        go_wp2_with fail
        refine (HGE.out _ B2.out).mono ?_
        rintro e w3 ⟨x, er, rfl, hg, hb3⟩
        have B3 := Lib.hid (B2.out.trans (hb3.mono B2.out.size))
        have HG := Lib.hid hg
        clear hg hb3 HGE
        go_wp2_with fail
        refine (HDR.out _ B3.out).mono ?_
        rintro e w4 ⟨vd, er2, ds, rfl, hd, hrd, hb4⟩
        have B4 := Lib.hid (B3.out.trans (hb4.mono B3.out.size))
        have HD := Lib.hid hd
        have HRW4 : Hid (HRow w3.heap.size ds vd w4) := hrd
        clear hd hrd hb4 HDR
        go_wp2_with fail
        refine (HRG.out _ B4.out).mono ?_
        rintro e w5 ⟨x2, b, rfl, hr, hb5⟩
        have B5 := Lib.hid (B4.out.trans (hb5.mono B4.out.size))
        have h3 := three HST.out HG.out HD.out hr
        have HRW5 := Lib.hid (HRW4.out.below hb5)
        clear hr hb5 HRG HG HD HRW4
        rcases h3 with ⟨rfl, rfl, rfl, rfl, hds⟩ | ⟨rfl, rfl, rfl, rfl, rfl⟩
        · have hxx : (x != x) = false := by simp
          have HDS := Lib.hid hds
          obtain ⟨da, dcap, rfl, hd1, hd2, hd3⟩ := HRW5.out.lies
          have HD3 := Lib.hid hd3
          clear hds HRW5 hd3
          go_wp2_with fail
          refine (HRD.out _ B5.out).mono ?_
          rintro e w6 ⟨vr, rfl, hrr, hb6⟩
          have B6 := Lib.hid (B5.out.trans (hb6.mono B5.out.size))
          obtain ⟨ra, rcap, rfl, hr1, hr2, hr3⟩ := hrr.lies
          have HSM := Lib.hid (same_any ds _ da _ dcap ra _ rcap w6 rfl rfl (Nat.le_trans hd1 hd2) (Nat.le_trans hr1 hr2) (HD3.out.up hb6) hr3)
          clear hrr hb6 HRD hr3 HD3
          go_wp2_with fail
          refine HSM.out.mono ?_
          rintro e w7 ⟨b7, rfl, hb7e, hb7⟩
          obtain rfl : b7 = true := hb7e.2 HDS.out
          have B7 := Lib.hid (B6.out.trans (hb7.mono B6.out.size))
          clear hb7e hb7 HSM HDS
          go_wp2_with fail
          refine (HSE.out _ B7.out).mono ?_
          rintro e w8 ⟨vs, os, rfl, hso, hrs, hb8⟩
          have B8 := Lib.hid (B7.out.trans (hb8.mono B7.out.size))
          have HSO := Lib.hid (setEnd_same HST.out hso)
          have HRW8 : Hid (HRow w7.heap.size os vs w8) := hrs
          clear hso hrs hb8 HSE
          go_wp2_with fail
          refine (HRS.out _ B8.out).mono ?_
          rintro e w9 ⟨vt, rfl, hrt, hb9⟩
          have B9 := Lib.hid (B8.out.trans (hb9.mono B8.out.size))
          obtain ⟨sa, scap, rfl, hs1, hs2, hs3⟩ := (HRW8.out.below hb9).lies
          obtain ⟨ta, tcap, rfl, ht1, ht2, ht3⟩ := hrt.lies
          have HSM2 := Lib.hid (same_any os _ sa _ scap ta _ tcap w9 rfl rfl (Nat.le_trans hs1 hs2) (Nat.le_trans ht1 ht2) hs3 ht3)
          have HSE2 : Hid (os = insF (dropL hs (a, f.toList)) ⟨a, f, v⟩) := HSO.out
          clear hrt hb9 HRS HRW8 hs3 ht3 HSO
          generalize insF (dropL hs (a, f.toList)) ⟨a, f, v⟩ = os2 at HSM2 HSE2 ⊢
          go_wp2_with fail
          refine HSM2.out.mono ?_
          rintro e w10 ⟨b10, rfl, hbe, hb10⟩
          obtain rfl : b10 = true := hbe.2 HSE2.out
          have B10 := Lib.hid (B9.out.trans (hb10.mono B9.out.size))
          clear hbe hb10 HSM2 HSE2
          generalize topI hs 0 + 1 = fr at HFR HRF
          have hfr : (fr == fr) = true := by simp
          go_wp2_with fail
          refine (HFR.out _ B10.out).mono ?_
          rintro e w11 ⟨rfl, rfl⟩
          go_wp2_with fail
          refine (HRF.out _ B10.out).mono ?_
          rintro e w11 ⟨rfl, rfl⟩
          go_wp2_with fail
          go_ret
          exact ⟨rfl, B10.out⟩
        · have hxx : (x != x) = false := by simp
          obtain ⟨da, dcap, rfl, hd1, hd2, hd3⟩ := HRW5.out.lies
          clear HRW5 hd3 HRD
          go_wp2_with fail
          refine (HSE.out _ B5.out).mono ?_
          rintro e w8 ⟨vs, os, rfl, hso, hrs, hb8⟩
          have B8 := Lib.hid (B5.out.trans (hb8.mono B5.out.size))
          have HSO := Lib.hid (setEnd_same HST.out hso)
          have HRW8 : Hid (HRow w5.heap.size os vs w8) := hrs
          clear hso hrs hb8 HSE
          go_wp2_with fail
          refine (HRS.out _ B8.out).mono ?_
          rintro e w9 ⟨vt, rfl, hrt, hb9⟩
          have B9 := Lib.hid (B8.out.trans (hb9.mono B8.out.size))
          obtain ⟨sa, scap, rfl, hs1, hs2, hs3⟩ := (HRW8.out.below hb9).lies
          obtain ⟨ta, tcap, rfl, ht1, ht2, ht3⟩ := hrt.lies
          have HSM2 := Lib.hid (same_any os _ sa _ scap ta _ tcap w9 rfl rfl (Nat.le_trans hs1 hs2) (Nat.le_trans ht1 ht2) hs3 ht3)
          have HSE2 : Hid (os = insF (dropL hs (a, f.toList)) ⟨a, f, v⟩) := HSO.out
          clear hrt hb9 HRS HRW8 hs3 ht3 HSO
          generalize insF (dropL hs (a, f.toList)) ⟨a, f, v⟩ = os2 at HSM2 HSE2 ⊢
          go_wp2_with fail
          refine HSM2.out.mono ?_
          rintro e w10 ⟨b10, rfl, hbe, hb10⟩
          obtain rfl : b10 = true := hbe.2 HSE2.out
          have B10 := Lib.hid (B9.out.trans (hb10.mono B9.out.size))
          clear hbe hb10 HSM2 HSE2
          generalize topI hs 0 + 1 = fr at HFR HRF
          have hfr : (fr == fr) = true := by simp
          go_wp2_with fail
          refine (HFR.out _ B10.out).mono ?_
          rintro e w11 ⟨rfl, rfl⟩
          go_wp2_with fail
          refine (HRF.out _ B10.out).mono ?_
          rintro e w11 ⟨rfl, rfl⟩
          go_wp2_with fail
          go_ret
          exact ⟨rfl, B10.out⟩
      · obtain ⟨b3, off3, rfl, hb3l, c1, c2, c3⟩ := HH.out.lies m (by rw [HH.out.hn]; omega)
        have c1 := (B2.out.cell (p := ⟨b3, _, none⟩) hb3l).trans c1
        rw [hmax] at c1
        have hwm : IntKind.i64.wrap (((m + 1 : Nat) : Int) - 1) = (m : Int) := by rw [show ((m + 1 : Nat) : Int) - 1 = (m : Int) by omega]; exact IntWalk.i64_in _ (by omega)
        have hwm2 : IntKind.i64.wrap ((m : Int) + 1 - 1) = (m : Int) := by rw [show (m : Int) + 1 - 1 = (m : Int) by omega]; exact IntWalk.i64_in _ (by omega)
        clear key c2 c3
        go_wp2_with fail
        go_ret
        exact ⟨rfl, B2.out⟩
      · have hin := low_of HST.out HH.out.hn HH.out.wf hmax
        obtain ⟨b3, off3, rfl, hb3l, c1, c2, c3⟩ := HH.out.lies m (by rw [HH.out.hn]; omega)
        have c1 := (B2.out.cell (p := ⟨b3, _, none⟩) hb3l).trans c1
        have hmb : ((hs.getD m hc0).a == 9223372036854775807) = false := by simpa using hmax
        have hwm : IntKind.i64.wrap (((m + 1 : Nat) : Int) - 1) = (m : Int) := by rw [show ((m + 1 : Nat) : Int) - 1 = (m : Int) by omega]; exact IntWalk.i64_in _ (by omega)
        have hwm2 : IntKind.i64.wrap ((m : Int) + 1 - 1) = (m : Int) := by rw [show (m : Int) + 1 - 1 = (m : Int) by omega]; exact IntWalk.i64_in _ (by omega)
        clear c2 c3
        obtain ⟨k1, k2, k3, k4, k5, k6, k7, k8⟩ := key.out w2 B2.out HST.out hin
        have HGE := Lib.hid k1
        have HDR := Lib.hid k2
        have HRG := Lib.hid k3
        have HRD := Lib.hid k4
        have HSE := Lib.hid k5
        have HRS := Lib.hid k6
        have HFR := Lib.hid k7
        have HRF := Lib.hid k8
        clear k1 k2 k3 k4 k5 k6 k7 k8 key hin
        generalize (hs.getD m hc0).a = top at c1 hmb hmax
        go_wp2_with fail
        refine (HGE.out _ B2.out).mono ?_
        rintro e w3 ⟨x, er, rfl, hg, hb3⟩
        have B3 := Lib.hid (B2.out.trans (hb3.mono B2.out.size))
        have HG := Lib.hid hg
        clear hg hb3 HGE
        go_wp2_with fail
        refine (HDR.out _ B3.out).mono ?_
        rintro e w4 ⟨vd, er2, ds, rfl, hd, hrd, hb4⟩
        have B4 := Lib.hid (B3.out.trans (hb4.mono B3.out.size))
        have HD := Lib.hid hd
        have HRW4 : Hid (HRow w3.heap.size ds vd w4) := hrd
        clear hd hrd hb4 HDR
        go_wp2_with fail
        refine (HRG.out _ B4.out).mono ?_
        rintro e w5 ⟨x2, b, rfl, hr, hb5⟩
        have B5 := Lib.hid (B4.out.trans (hb5.mono B4.out.size))
        have h3 := three HST.out HG.out HD.out hr
        have HRW5 := Lib.hid (HRW4.out.below hb5)
        clear hr hb5 HRG HG HD HRW4
        rcases h3 with ⟨rfl, rfl, rfl, rfl, hds⟩ | ⟨rfl, rfl, rfl, rfl, rfl⟩
        · have hxx : (x != x) = false := by simp
          have HDS := Lib.hid hds
          obtain ⟨da, dcap, rfl, hd1, hd2, hd3⟩ := HRW5.out.lies
          have HD3 := Lib.hid hd3
          clear hds HRW5 hd3
          go_wp2_with fail
          refine (HRD.out _ B5.out).mono ?_
          rintro e w6 ⟨vr, rfl, hrr, hb6⟩
          have B6 := Lib.hid (B5.out.trans (hb6.mono B5.out.size))
          obtain ⟨ra, rcap, rfl, hr1, hr2, hr3⟩ := hrr.lies
          have HSM := Lib.hid (same_any ds _ da _ dcap ra _ rcap w6 rfl rfl (Nat.le_trans hd1 hd2) (Nat.le_trans hr1 hr2) (HD3.out.up hb6) hr3)
          clear hrr hb6 HRD hr3 HD3
          go_wp2_with fail
          refine HSM.out.mono ?_
          rintro e w7 ⟨b7, rfl, hb7e, hb7⟩
          obtain rfl : b7 = true := hb7e.2 HDS.out
          have B7 := Lib.hid (B6.out.trans (hb7.mono B6.out.size))
          clear hb7e hb7 HSM HDS
          go_wp2_with fail
          refine (HSE.out _ B7.out).mono ?_
          rintro e w8 ⟨vs, os, rfl, hso, hrs, hb8⟩
          have B8 := Lib.hid (B7.out.trans (hb8.mono B7.out.size))
          have HSO := Lib.hid (setEnd_same HST.out hso)
          have HRW8 : Hid (HRow w7.heap.size os vs w8) := hrs
          clear hso hrs hb8 HSE
          go_wp2_with fail
          refine (HRS.out _ B8.out).mono ?_
          rintro e w9 ⟨vt, rfl, hrt, hb9⟩
          have B9 := Lib.hid (B8.out.trans (hb9.mono B8.out.size))
          obtain ⟨sa, scap, rfl, hs1, hs2, hs3⟩ := (HRW8.out.below hb9).lies
          obtain ⟨ta, tcap, rfl, ht1, ht2, ht3⟩ := hrt.lies
          have HSM2 := Lib.hid (same_any os _ sa _ scap ta _ tcap w9 rfl rfl (Nat.le_trans hs1 hs2) (Nat.le_trans ht1 ht2) hs3 ht3)
          have HSE2 : Hid (os = insF (dropL hs (a, f.toList)) ⟨a, f, v⟩) := HSO.out
          clear hrt hb9 HRS HRW8 hs3 ht3 HSO
          generalize insF (dropL hs (a, f.toList)) ⟨a, f, v⟩ = os2 at HSM2 HSE2 ⊢
          go_wp2_with fail
          refine HSM2.out.mono ?_
          rintro e w10 ⟨b10, rfl, hbe, hb10⟩
          obtain rfl : b10 = true := hbe.2 HSE2.out
          have B10 := Lib.hid (B9.out.trans (hb10.mono B9.out.size))
          clear hbe hb10 HSM2 HSE2
          generalize topI hs (m + 1) + 1 = fr at HFR HRF
          have hfr : (fr == fr) = true := by simp
          go_wp2_with fail
          refine (HFR.out _ B10.out).mono ?_
          rintro e w11 ⟨rfl, rfl⟩
          go_wp2_with fail
          refine (HRF.out _ B10.out).mono ?_
          rintro e w11 ⟨rfl, rfl⟩
          go_wp2_with fail
          go_ret
          exact ⟨rfl, B10.out⟩
        · have hxx : (x != x) = false := by simp
          obtain ⟨da, dcap, rfl, hd1, hd2, hd3⟩ := HRW5.out.lies
          clear HRW5 hd3 HRD
          go_wp2_with fail
          refine (HSE.out _ B5.out).mono ?_
          rintro e w8 ⟨vs, os, rfl, hso, hrs, hb8⟩
          have B8 := Lib.hid (B5.out.trans (hb8.mono B5.out.size))
          have HSO := Lib.hid (setEnd_same HST.out hso)
          have HRW8 : Hid (HRow w5.heap.size os vs w8) := hrs
          clear hso hrs hb8 HSE
          go_wp2_with fail
          refine (HRS.out _ B8.out).mono ?_
          rintro e w9 ⟨vt, rfl, hrt, hb9⟩
          have B9 := Lib.hid (B8.out.trans (hb9.mono B8.out.size))
          obtain ⟨sa, scap, rfl, hs1, hs2, hs3⟩ := (HRW8.out.below hb9).lies
          obtain ⟨ta, tcap, rfl, ht1, ht2, ht3⟩ := hrt.lies
          have HSM2 := Lib.hid (same_any os _ sa _ scap ta _ tcap w9 rfl rfl (Nat.le_trans hs1 hs2) (Nat.le_trans ht1 ht2) hs3 ht3)
          have HSE2 : Hid (os = insF (dropL hs (a, f.toList)) ⟨a, f, v⟩) := HSO.out
          clear hrt hb9 HRS HRW8 hs3 ht3 HSO
          generalize insF (dropL hs (a, f.toList)) ⟨a, f, v⟩ = os2 at HSM2 HSE2 ⊢
          go_wp2_with fail
          refine HSM2.out.mono ?_
          rintro e w10 ⟨b10, rfl, hbe, hb10⟩
          obtain rfl : b10 = true := hbe.2 HSE2.out
          have B10 := Lib.hid (B9.out.trans (hb10.mono B9.out.size))
          clear hbe hb10 HSM2 HSE2
          generalize topI hs (m + 1) + 1 = fr at HFR HRF
          have hfr : (fr == fr) = true := by simp
          go_wp2_with fail
          refine (HFR.out _ B10.out).mono ?_
          rintro e w11 ⟨rfl, rfl⟩
          go_wp2_with fail
          refine (HRF.out _ B10.out).mono ?_
          rintro e w11 ⟨rfl, rfl⟩
          go_wp2_with fail
          go_ret
          exact ⟨rfl, B10.out⟩
end Go.Proofs.Yteiomafciignkaa
