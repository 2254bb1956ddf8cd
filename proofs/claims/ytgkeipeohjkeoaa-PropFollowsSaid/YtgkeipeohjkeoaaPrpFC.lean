/- PropFollows: its walk. -/
import Derived.Test.YtgkeipeohjkeoaaPrpFB
import Derived.BigRegion
set_option linter.unusedVariables false
set_option linter.unusedSimpArgs false
namespace Go.Proofs.Ytgkeipeohjkeoaa
open Go.RowKit

set_option maxRecDepth 100000 in
set_option maxHeartbeats 4000000 in
theorem propFollows_any (hup : UpSaid6) (hbeg : BeginSaid) (n : Int) (a : Option Addr) (m cap : Nat) (cs : List (List Int)) (a2 : Option Addr) (k2 cap2 : Nat) (ls : List Int) (w : World) (h : GivenC w a m cs)
    (hk2 : ls.length = k2) (hkm2 : k2 ≤ 9223372036854775807) (hl2 : Nums w.heap.size w a2 ls) :
    Calls Try.prog 5 #[.int .i64 n, .slice a m cap, .slice a2 k2 cap2] w fun e w' => e = .returned (.bool true) ∧ Below w.heap.size w w' := by
  have HUP := Lib.hid (fun W => hup W)
  have HG := Lib.hid h
  have HLI := Lib.hid (fun W (g : GivenC W a m cs) => light_any n a m cap cs W g.hm g.hmm g.hl)
  have HFO := Lib.hid (fun W (g : GivenC W a m cs) (hb : Below w.heap.size w W) (hl : LightIs n cs) => follow_any hbeg n a m cap cs a2 k2 cap2 ls W g.hm g.hmm g.hl (hl.big g.hm) hk2 hkm2 ((hl2.below hb).mono hb.size))
  have HRC := Lib.hid (fun W (g : GivenC W a m cs) (hl : LightIs n cs) => rcheck_any n a m cap cs W g.hm g.hmm g.hl (hl.big g.hm))
  have HLT := Lib.hid (fun W (n0 : Nat) (hn : n0 ≤ 8192) (hb : Below w.heap.size w W) => lits_any n0 ⟨by omega, by omega⟩ a2 k2 cap2 ls W hk2 hkm2 ((hl2.below hb).mono hb.size))
  have HRF := Lib.hid (fun W (n0 : Nat) (hx : Ctx n0 cs ls) (g : GivenC W a m cs) (hb : Below w.heap.size w W) => rfollow_any hx a m cap a2 k2 cap2 W g.hm g.hl hk2 hkm2 ((hl2.below hb).mono hb.size))
  have HCD := Lib.hid (fun W => code_any (chkK n cs) W (by have := chkK_in n cs; omega))
  have HC5 := Lib.hid (fun W => code_any 5 W (by omega))
  have n1 := fun t v W => Try.neIface t v W
  have n2 := fun W => Try.neNil W
  clear hup hbeg h hk2 hl2
  go_enter Try.func5, Try.ntmps5
  go_wp2_with fail
  refine (HUP.out _).mono ?_
  rintro e w1 ⟨rfl, hb1⟩
  have B1 := Lib.hid hb1
  clear hb1
  go_wp2_with fail
  refine (HLI.out _ (HG.out.below B1.out)).mono ?_
  rintro e w2 ⟨b, rfl, rfl, hlt⟩
  clear HUP HLI
  cases b with
  | false =>
    go_wp2_with fail
    go_ret
    exact ⟨rfl, B1.out⟩
  | true =>
    have HLG := Lib.hid (hlt rfl)
    clear hlt
    by_cases hk1 : 1000 < k2
    · have hk1' : (1000 : Int) < (k2 : Int) := by omega
      go_wp2_with fail
      go_ret
      exact ⟨rfl, B1.out⟩
    · have hk1' : ¬ (1000 : Int) < (k2 : Int) := by omega
      have hd2 : decide ((1000 : Int) < (k2 : Int)) = false := decide_eq_false hk1'
      have hd4 : decide (1000 < k2) = false := decide_eq_false hk1
      go_wp2_with fail
      refine (HFO.out _ (HG.out.below B1.out) B1.out HLG.out).mono ?_
      rintro e w3 ⟨hb3, v, bc, rfl, hne, hz⟩
      have B3 := Lib.hid (B1.out.trans (hb3.mono B1.out.size))
      have HNE := Lib.hid hne
      have HZ := Lib.hid hz
      clear hb3 hne hz HFO
      go_wp2_with fail
      refine (HRC.out _ (HG.out.below B3.out) HLG.out).mono ?_
      rintro e w4 ⟨rfl, rfl⟩
      by_cases h0 : chkK n cs = 0
      · obtain ⟨n0, rfl, hn, hm2, hkk, hcs⟩ := chkK_zero h0
        rw [h0]
        have HL9 := Lib.hid (HLT.out w3 n0 hn B3.out)
        cases hls : litsB n0 ls with
        | false =>
          have hfk : fK n0 cs ls = 5 := by unfold fK; rw [if_neg (by rw [h0]; decide), if_neg (by rw [hls]; decide)]
          obtain ⟨rfl, rfl⟩ := HNE.out (by rw [hfk]; decide)
          rw [hfk]
          rw [hls] at HL9
          clear HNE HZ hfk hls h0 hkk hcs HRF HCD
          go_wp2_with fail
          refine HL9.out.mono ?_
          rintro e w4 ⟨rfl, rfl⟩
          go_wp2_with fail
          refine (HC5.out _).mono ?_
          rintro e w4 ⟨rfl, rfl⟩
          go_wp2_with fail
          go_ret
          exact ⟨rfl, B3.out⟩
        | true =>
          have hfk : fK n0 cs ls = 0 := by unfold fK; rw [if_neg (by rw [h0]; decide), if_pos hls]
          have hx : Ctx n0 cs ls := ⟨⟨hcs, litsB_iff.1 hls⟩, hn, by have := HG.out.hm; omega, hkk⟩
          obtain ⟨m0, A, hm0, _, _, hfi, hvt, hvf⟩ := HZ.out hfk
          obtain rfl : n0 = m0 := by omega
          rw [hfk, codeV_zero]
          rw [hls] at HL9
          have HR9 := Lib.hid (HRF.out w3 n0 hx (HG.out.below B3.out) B3.out)
          have HFI := Lib.hid hfi
          have HVT := Lib.hid hvt
          have HVF := Lib.hid hvf
          clear HNE HZ hfk hls h0 hkk hcs HRF HCD hfi hvt hvf hx HC5
          go_wp2_with fail
          refine HL9.out.mono ?_
          rintro e w4 ⟨rfl, rfl⟩
          go_wp2_with fail
          refine HR9.out.mono ?_
          rintro e w5 ⟨hb5, v2, b2, A2, rfl, hfi2, hvt2, hvf2⟩
          have B5 := Lib.hid (B3.out.trans (hb5.mono B3.out.size))
          obtain ⟨rfl, hAA⟩ := HFI.out.unique hfi2
          cases bc with
          | true =>
            obtain rfl := HVT.out rfl
            obtain rfl := hvt2 rfl
            clear HFI HVT HVF hfi2 hvt2 hvf2 hAA hb5 HL9 HR9
            go_wp2_with fail
            go_loopw [15] (fun i wr => i = .int .i64 0 ∧ Hid (Below w.heap.size w wr)) (fun _ _ => 0)
            case atStart => exact ⟨rfl, B5⟩
            case round =>
              obtain ⟨rfl, hb⟩ := hrel
              go_wp2_with fail
              go_ret
              exact ⟨rfl, hb.out⟩
          | false =>
            obtain ⟨I, rfl, hI1, hI2, hA, _⟩ := HVF.out rfl
            obtain ⟨I2, rfl, hJ1, hJ2, hA2⟩ := hvf2 rfl
            have HCE : Hid (∀ W, Below w5.heap.size w5 W → ∀ i, i < n0 + 1 → W.cell? ⟨I, i, none⟩ = some (.int .i64 (A i)) ∧ W.cell? ⟨I2, i, none⟩ = some (.int .i64 (A i))) := fun W hW i hi =>
              ⟨(hW.cell (p := ⟨I, i, none⟩) (Nat.lt_of_lt_of_le hI2 hb5.size)).trans ((hb5.cell (p := ⟨I, i, none⟩) hI2).trans (hA i hi)), by
                rw [hAA rfl i (by omega)]
                exact (hW.cell (p := ⟨I2, i, none⟩) hJ2).trans (hA2 i hi)⟩
            clear HFI HVT HVF hfi2 hvt2 hvf2 hAA hb5 HL9 HR9 hA hA2 hI1 hI2 hJ1 hJ2
            go_wp2_with fail
            go_loopw [15] (fun i wr => ∃ k : Nat, k ≤ n0 + 1 ∧ i = .int .i64 k ∧ Hid (Below w5.heap.size w5 wr)) (fun i _ => n0 + 1 - (intOf i).toNat)
            case atStart => exact ⟨0, Nat.zero_le _, rfl, Below.refl _ _⟩
            case round =>
              obtain ⟨k, hk, rfl, hb⟩ := hrel
              by_cases hlt : k < n0 + 1
              · obtain ⟨c1, c2⟩ := HCE.out _ hb.out k hlt
                generalize A k = x at c1 c2
                have hxx : (x != x) = false := by simp
                have hlt2 : (k : Int) < (n0 + 1 : Nat) := by omega
                have HBD : Hid (Below w5.heap.size w5 wr.drew) := hb.out.drew
                clear hb
                go_wp2_with fail
                go_region
                all_goals
                  go_wp2_with fail
                  go_roundw
                  case rel => exact ⟨k + 1, by omega, by go_num, HBD⟩
                  case measure => simp [intOf]; omega
              · obtain rfl : k = n0 + 1 := by omega
                have BE := Lib.hid (B5.out.trans (hb.out.mono B5.out.size))
                clear hb
                go_wp2_with fail
                go_ret
                exact ⟨rfl, BE.out⟩
      · have hfk : fK n cs ls = chkK n cs := by unfold fK; rw [if_pos h0]
        obtain ⟨rfl, rfl⟩ := HNE.out (by rw [hfk]; exact h0)
        rw [hfk]
        have hb0 : (chkK n cs == 0) = false := by simp [h0]
        have hb1 : (chkK n cs != 0) = true := by simp [bne, h0]
        have hb2 : (chkK n cs == chkK n cs) = true := by simp
        clear HNE HZ hfk HRF HLT HC5 HRC
        generalize chkK n cs = x at HCD h0 hb0 hb1 hb2 ⊢
        go_wp2_with fail
        refine (HCD.out _).mono ?_
        rintro e w4 ⟨rfl, rfl⟩
        go_wp2_with fail
        go_ret
        exact ⟨rfl, B3.out⟩
end Go.Proofs.Ytgkeipeohjkeoaa
