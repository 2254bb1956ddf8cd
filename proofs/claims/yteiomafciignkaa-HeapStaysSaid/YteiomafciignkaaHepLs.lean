/- HeapStays: its walk. -/
import Derived.Test.YteiomafciignkaaHepL
import Derived.Test.YteiomafciignkaaHepJe
set_option linter.unusedVariables false
set_option linter.unusedSimpArgs false
namespace Go.Proofs.Yteiomafciignkaa
set_option maxRecDepth 100000
open Go.RowKit

theorem wrap_up (k : Nat) (h : k < 1000) : IntKind.i64.wrap ((k : Int) + 1) = (k : Int) + 1 ∧ wrap64 ((k : Int) + 1) = (k : Int) + 1 ∧ IntKind.i64.wrap (k : Int) = (k : Int) := ⟨IntWalk.i64_in _ (by omega), by unfold wrap64; omega, IntWalk.i64_in _ (by omega)⟩
set_option maxHeartbeats 16000000 in
theorem heapStays_any (ad : Option Addr) (n cap : Nat) (hs : List HC) (a : Int) (f : ByteArray) (ad2 : Option Addr) (n2 cap2 : Nat) (ys : List HC) (w : World) (h : CameH w ad n cap hs) (h2 : CameH w ad2 n2 cap2 ys) :
    Calls Try.prog 7 #[.slice ad n cap, .int .i64 a, .string f, .slice ad2 n2 cap2] w fun e w' => e = .returned (.bool true) ∧ Below w.heap.size w w' := by
  have HUP := Lib.hid (up_said17 w)
  have HSA := Lib.hid (fun W (hb : Below w.heap.size w W) => stands_any hs ad n cap W h.hn (by have := h.hc; omega) (h.lies.up hb))
  have HH := Lib.hid h
  have HH2 := Lib.hid h2
  clear h h2
  by_cases hbig : 500 < n
  · have hbigi : (n : Int) > 500 := by omega
    have hbigj : (500 : Int) < (n : Int) := by omega
    go_enter Try.func7, Try.ntmps7
    go_wp2_with fail
    refine HUP.out.mono ?_
    rintro e w1 ⟨rfl, hb1⟩
    have B1 := Lib.hid hb1
    clear hb1 HUP
    go_wp2_with fail
    refine (HSA.out _ B1.out).mono ?_
    rintro e w2 ⟨b, rfl, _, hb2⟩
    have B2 := Lib.hid (B1.out.trans (hb2.mono B1.out.size))
    clear hb2 HSA
    go_wp2_with fail
    go_ret
    exact ⟨rfl, B2.out⟩
  · by_cases hbig2 : 100 < n2
    · have hbigi : ¬ (n : Int) > 500 := by omega
      have hbigj : ¬ (500 : Int) < (n : Int) := by omega
      have hbigi2 : (n2 : Int) > 100 := by omega
      have hbigj2 : (100 : Int) < (n2 : Int) := by omega
      go_enter Try.func7, Try.ntmps7
      go_wp2_with fail
      refine HUP.out.mono ?_
      rintro e w1 ⟨rfl, hb1⟩
      have B1 := Lib.hid hb1
      clear hb1 HUP
      go_wp2_with fail
      refine (HSA.out _ B1.out).mono ?_
      rintro e w2 ⟨b, rfl, _, hb2⟩
      have B2 := Lib.hid (B1.out.trans (hb2.mono B1.out.size))
      clear hb2 HSA
      go_wp2_with fail
      go_ret
      exact ⟨rfl, B2.out⟩
    · have hbigi : ¬ (n : Int) > 500 := by omega
      have hbigj : ¬ (500 : Int) < (n : Int) := by omega
      have hbigi2 : ¬ (n2 : Int) > 100 := by omega
      have hbigj2 : ¬ (100 : Int) < (n2 : Int) := by omega
      go_enter Try.func7, Try.ntmps7
      go_wp2_with fail
      refine HUP.out.mono ?_
      rintro e w0 ⟨rfl, hb0⟩
      have B0 := Lib.hid hb0
      clear hb0 HUP
      go_wp2_with fail
      refine (HSA.out _ B0.out).mono ?_
      rintro e w1 ⟨b, rfl, hst, hb1⟩
      have B1 := Lib.hid (B0.out.trans (hb1.mono B0.out.size))
      clear hb1 HSA
      cases b with
      | false =>
        clear hst
        go_wp2_with fail
        go_ret
        exact ⟨rfl, B1.out⟩
      | true =>
        have HST := Lib.hid (hst.1 rfl)
        clear hst B0
        have HL2 := Lib.hid HH2.out.lies
        go_wp2_with fail
        go_loopw [11] (fun i wr => ∃ k : Nat, i = .int .i64 k ∧ k ≤ n2 ∧ w1 = wr ∧ Hid (∀ j, j < k → -1099511627776 ≤ (ys.getD j hc0).v ∧ (ys.getD j hc0).v ≤ 1099511627776)) (fun i _ => n2 - (intOf i).toNat)
        case atStart => exact ⟨0, rfl, Nat.zero_le _, rfl, fun j hj => absurd hj (Nat.not_lt_zero j)⟩
        case round =>
          obtain ⟨k, rfl, hk, rfl, hbd⟩ := hrel
          by_cases hlt : k < n2
          · have hlti : (k : Int) < (n2 : Int) := by omega
            obtain ⟨b3, off3, rfl, hb3, c1, c2, c3⟩ := HL2.out k (by rw [HH2.out.hn]; exact hlt)
            have q3 := (B1.out.cell (p := ⟨b3, _, none⟩) hb3).trans c3
            have HNX : Hid (-1099511627776 ≤ (ys.getD k hc0).v ∧ (ys.getD k hc0).v ≤ 1099511627776 → ∀ j, j < k + 1 → -1099511627776 ≤ (ys.getD j hc0).v ∧ (ys.getD j hc0).v ≤ 1099511627776) := fun h j hj => by
              by_cases e : j = k
              · rw [e]; exact h
              · exact hbd.out j (by omega)
            clear c1 c2 c3 hbd
            generalize (ys.getD k hc0).v = v at q3 HNX
            by_cases g1 : (1099511627776 : Int) < v
            · go_wp2_with fail
              go_ret
              exact ⟨rfl, B1.out⟩
            · by_cases g2 : v < -1099511627776
              · go_wp2_with fail
                go_ret
                exact ⟨rfl, B1.out⟩
              · have HK := Lib.hid (HNX.out ⟨by omega, by omega⟩)
                clear HNX
                go_wp2_with fail
                go_roundw
                case rel => exact ⟨k + 1, by go_num, by omega, by trivial, HK⟩
                case measure => clear q3; simp [intOf]; omega
          · have hlti : ¬ (k : Int) < (n2 : Int) := by omega
            have HBY : Hid (BoundV (ys ++ ys) 1099511627776) := fun c hc => (List.mem_append.1 hc).elim ((boundV_of HH2.out.hn (fun j hj => hbd.out j (by omega))) c) ((boundV_of HH2.out.hn (fun j hj => hbd.out j (by omega))) c)
            clear hbd HL2
            have hn5 : n ≤ 500 := by omega
            have hn1 : n2 ≤ 100 := by omega
            -- the copies
            obtain ⟨i0, hi, hz0, hz1, hz2⟩ := info_parts Try.infoCell
            obtain ⟨i1, hi1, hy0, hy1, hy2⟩ := info_parts Try.infoShare
            obtain ⟨g, c3, w3, hr1, ho3, hb3⟩ := run_copy_h (P := Try.prog) 22 22 30 i0 _ Try.underlying22 hi hz0 hz1 hz2 rfl w1 ad n cap hs HH.out.hn (HH.out.lies.up B1.out) (by omega)
            have hr1 : ∀ ty, (Builtin.append_ #[22, 22] ty #[.slice (some ⟨w1.heap.size, 0, none⟩) 0 0, .slice ad n cap]).run Try.prog (w1.alloc (.cells #[] 30)) = .ok (.slice (some ⟨g, 0, none⟩) n c3) w3 := fun ty => hr1
            have B3 : Hid (Below w.heap.size w w3) := B1.out.trans (hb3.mono B1.out.size)
            obtain ⟨g2, c4, w4, hr2, ho4, hb4⟩ := run_copy_h (P := Try.prog) 42 42 44 i1 _ Try.underlying42 hi1 hy0 hy1 hy2 rfl w3 ad2 n2 cap2 ys HH2.out.hn (HH2.out.lies.up B3.out) (by omega)
            have hr2 : ∀ ty, (Builtin.append_ #[42, 42] ty #[.slice (some ⟨w3.heap.size, 0, none⟩) 0 0, .slice ad2 n2 cap2]).run Try.prog (w3.alloc (.cells #[] 44)) = .ok (.slice (some ⟨g2, 0, none⟩) n2 c4) w4 := fun ty => hr2
            have B4 : Hid (Below w.heap.size w w4) := B3.out.trans (hb4.mono B3.out.size)
            have G1 := Lib.hid (World.ownsRow.lt ho3 g rfl)
            have G2 := Lib.hid (World.ownsRow.lt ho4 g2 rfl)
            have RO := Lib.hid (own_below ho3 hb4)
            have RM := Lib.hid ho4
            have GL : Hid (g < w4.heap.size) := Nat.lt_of_lt_of_le G1.out.2 hb4.size
            clear hb3 ho3 hb4 ho4 hi hz0 hz1 hz2 hi1 hy0 hy1 hy2 i0 i1
            -- what is asked of them
            obtain ⟨oa, oc, e1, ho1, ho2, hol, _⟩ := own_hlies HH.out.hn RO.out
            injection e1 with e1 _ e3
            subst e1 e3
            obtain ⟨ma, mc, e1, hm1, hm2, hml, _⟩ := own_hlies HH2.out.hn RM.out
            injection e1 with e1 _ e3
            subst e1 e3
            have HOL := Lib.hid (fun W (hW : Below w4.heap.size w4 W) => hol.up hW)
            have HML := Lib.hid (fun W (hW : Below w4.heap.size w4 W) => hml.up hW)
            have HSE := Lib.hid (set_any hs (some ⟨g, 0, none⟩) n c3 a f 5 w4 HH.out.hn (by omega) ⟨ho1, ho2⟩ (fun h => by cases h) (fun _ q hq => by injection hq with hq; rw [← hq]) hol HST.out)
            have HDR := Lib.hid (fun W (hW : Below w4.heap.size w4 W) => drop_any hs (some ⟨g, 0, none⟩) n c3 a f W HH.out.hn (by omega) ⟨ho1, ho2⟩ (HOL.out W hW) HST.out)
            have HJO := Lib.hid (fun W (hW : Below w4.heap.size w4 W) => join_any ys ys (sort_said _ (by rw [List.length_append, HH2.out.hn]; omega)) (some ⟨g2, 0, none⟩) n2 c4 (some ⟨g2, 0, none⟩) n2 c4 W HH2.out.hn HH2.out.hn (by omega) (by omega) HBY.out (HML.out W hW) (HML.out W hW))
            have HSM := Lib.hid (fun W (hW : Below w4.heap.size w4 W) => same_any hs hs (some ⟨g, 0, none⟩) n c3 ad n cap W HH.out.hn HH.out.hn (by omega) (by omega) (HOL.out W hW) (HH.out.lies.up (B4.out.trans (hW.mono B4.out.size))))
            have HSS := Lib.hid (fun W (hW : Below w4.heap.size w4 W) => sames_any ys ys (some ⟨g2, 0, none⟩) n2 c4 ad2 n2 cap2 W HH2.out.hn HH2.out.hn (by omega) (by omega) (HML.out W hW) (HH2.out.lies.up (B4.out.trans (hW.mono B4.out.size))))
            have HDH := Lib.hid (fun W (hW : Below w.heap.size w W) => drop_any hs ad n cap a f W HH.out.hn (by omega) HH.out.hc (HH.out.lies.up hW) HST.out)
            have HRS := Lib.hid (fun W (hW : Below w.heap.size w W) => rset_any hs ad n cap a f 5 W HH.out.hn (by omega) (HH.out.lies.up hW))
            have HRJ := Lib.hid (fun W (hW : Below w.heap.size w W) => rjoin_any ys ys ad2 n2 cap2 ad2 n2 cap2 W HH2.out.hn HH2.out.hn hn1 hn1 HBY.out (HH2.out.lies.up hW) (HH2.out.lies.up hW))
            clear hol hml ho1 ho2 hm1 hm2
            go_wp2_with (at_builtin; first | refine Lib.wpList_append_run _ rfl _ _ _ _ rfl _ _ rfl rfl _ _ (hr1 _) ?_ | refine Lib.wpList_append_run _ rfl _ _ _ _ rfl _ _ rfl rfl _ _ (hr2 _) ?_)
            clear hr1 hr2
            refine HSE.out.mono ?_
            rintro e w5 ⟨vs, os, rfl, hso, hrs, hb5⟩
            have C5 := Lib.hid hb5
            have HSO := Lib.hid (setEnd_same HST.out hso)
            have RS : Hid (HRow w4.heap.size os vs w5) := hrs
            have HSL : Hid (os.length ≤ 1000) := by have := (setIs_len hso).1; rw [HH.out.hn] at this; show _ ≤ _; omega
            clear hso hrs hb5 HSE
            go_wp2_with fail
            refine (HDR.out _ C5.out).mono ?_
            rintro e w6 ⟨vd, er, ds, rfl, hd, hrd, hb6⟩
            have C6 := Lib.hid (C5.out.trans (hb6.mono C5.out.size))
            have RS := Lib.hid (RS.out.below hb6)
            have RD : Hid (HRow w4.heap.size ds vd w6) := ownsRow_lower hrd C5.out.size
            have HD1 := Lib.hid hd
            clear hd hrd hb6 HDR C5
            go_wp2_with fail
            refine (HJO.out _ C6.out).mono ?_
            rintro e w7 ⟨vj, zs, rfl, hsi, hrj, hb7⟩
            have C7 := Lib.hid (C6.out.trans (hb7.mono C6.out.size))
            have RS := Lib.hid (RS.out.below hb7)
            have RD := Lib.hid (RD.out.below hb7)
            have RJ : Hid (SRow w4.heap.size (joinTo zs zs.length) vj w7) := ownsRow_lower hrj C6.out.size
            have HJE : Hid (joinTo zs zs.length = joinD (ys ++ ys)) := join_is hsi
            clear hsi hrj hb7 HJO C6
            go_wp2_with fail
            refine (HSM.out _ C7.out).mono ?_
            rintro e w8 ⟨b8, rfl, hbe, hb8⟩
            obtain rfl : b8 = true := hbe.2 trivial
            have C8 := Lib.hid (C7.out.trans (hb8.mono C7.out.size))
            have RS := Lib.hid (RS.out.below hb8)
            have RD := Lib.hid (RD.out.below hb8)
            have RJ := Lib.hid (RJ.out.below hb8)
            clear hbe hb8 HSM C7
            go_wp2_with fail
            refine (HSS.out _ C8.out).mono ?_
            rintro e w9 ⟨b9, rfl, hbe, hb9⟩
            obtain rfl : b9 = true := hbe.2 trivial
            have C9 := Lib.hid (C8.out.trans (hb9.mono C8.out.size))
            have RS := Lib.hid (RS.out.below hb9)
            have RD := Lib.hid (RD.out.below hb9)
            have RJ := Lib.hid (RJ.out.below hb9)
            have ZO : Hid (ZRow 30 w1.heap.size g n c3 w9) := ZRow.of HH.out.hn (own_below RO.out C9.out)
            have RM := Lib.hid (own_below RM.out C9.out)
            have B9 := Lib.hid (B4.out.trans (C9.out.mono B4.out.size))
            have S9 := Lib.hid C9.out.size
            clear hbe hb9 HSS C8 C9 B4 RO HOL HML
            go_wp2_with fail
            go_loopw [18] (fun i wr => ∃ k : Nat, i = .int .i64 k ∧ k ≤ n ∧ Hid (ZRow 30 w1.heap.size g n c3 wr ∧ w9.grownBy wr (some g))) (fun i _ => n - (intOf i).toNat)
            case atStart => exact ⟨0, rfl, Nat.zero_le _, ZO.out, grown_refl _ _⟩
            case round =>
              obtain ⟨k, rfl, hk, hrel⟩ := hrel
              by_cases hlt : k < n
              · have hlti : (k : Int) < (n : Int) := by omega
                obtain ⟨x, y, z, d1, d2, d3⟩ := hrel.out.1.cells hlt
                have f1 := hrel.out.1.frozen
                have HFIN : Hid (ZRow 30 w1.heap.size g n c3 (put3 wr g k hc0) ∧ w9.grownBy (put3 wr g k hc0) (some g)) := by
                  obtain ⟨s1, s2⟩ := hrel.out.1.put k hc0
                  exact ⟨s1, grown_trans hrel.out.2 s2⟩
                have HFID : Hid (ZRow 30 w1.heap.size g n c3 (put3 wr g k hc0).drew ∧ w9.grownBy (put3 wr g k hc0).drew (some g)) := ⟨HFIN.out.1.drew, grown_drew HFIN.out.2⟩
                clear hrel
                go_wp2_with fail
                go_roundw
                case rel => exact ⟨k + 1, by go_num, by omega, HFIN⟩
                case measure => simp [intOf]; omega
              · have hlti : ¬ (k : Int) < (n : Int) := by omega
                have GR := Lib.hid hrel.out.2
                have RS := Lib.hid (own_keep RS.out GR.out GL.out)
                have RD := Lib.hid (own_keep RD.out GR.out GL.out)
                have RJ := Lib.hid (own_keep RJ.out GR.out GL.out)
                have ZM : Hid (ZRow 44 w3.heap.size g2 n2 c4 wr) := ZRow.of HH2.out.hn (own_keep RM.out GR.out G1.out.2)
                have BA : Hid (Below w.heap.size w wr) := Below.grown B9.out GR.out B9.out.size (fun k e => by injection e with e; rw [← e]; exact Nat.le_trans B1.out.size G1.out.1)
                clear hrel GR ZO RM
                go_wp2_with fail
                rename World => wa
                go_loopw [19] (fun i wr => ∃ k : Nat, i = .int .i64 k ∧ k ≤ n2 ∧ Hid (ZRow 44 w3.heap.size g2 n2 c4 wr ∧ wa.grownBy wr (some g2))) (fun i _ => n2 - (intOf i).toNat)
                case atStart => exact ⟨0, rfl, Nat.zero_le _, ZM.out, grown_refl _ _⟩
                case round =>
                  obtain ⟨k2, rfl, hk2, hrel⟩ := hrel
                  by_cases hlt2 : k2 < n2
                  · have hlti2 : (k2 : Int) < (n2 : Int) := by omega
                    obtain ⟨x, y, z, d1, d2, d3⟩ := hrel.out.1.cells hlt2
                    have f1 := hrel.out.1.frozen
                    have HFIN : Hid (ZRow 44 w3.heap.size g2 n2 c4 (put3 wr g2 k2 hc0) ∧ wa.grownBy (put3 wr g2 k2 hc0) (some g2)) := by
                      obtain ⟨s1, s2⟩ := hrel.out.1.put k2 hc0
                      exact ⟨s1, grown_trans hrel.out.2 s2⟩
                    clear hrel
                    go_wp2_with fail
                    go_roundw
                    case rel => exact ⟨k2 + 1, by go_num, by omega, HFIN⟩
                    case measure => simp [intOf]; omega
                  · have hlti2 : ¬ (k2 : Int) < (n2 : Int) := by omega
                    have GR := Lib.hid hrel.out.2
                    have GM : Hid (w3.heap.size ≤ g2 ∧ g2 < w4.heap.size) := G2.out
                    have RS := Lib.hid (own_keep RS.out GR.out G2.out.2)
                    have RD := Lib.hid (own_keep RD.out GR.out G2.out.2)
                    have RJ := Lib.hid (own_keep RJ.out GR.out G2.out.2)
                    have BB : Hid (Below w.heap.size w wr) := Below.grown BA.out GR.out BA.out.size (fun k e => by injection e with e; rw [← e]; exact Nat.le_trans B3.out.size G2.out.1)
                    clear hrel GR ZM GM BA
                    go_wp2_with fail
                    refine (HDH.out _ BB.out).mono ?_
                    rintro e wc ⟨ve, er2, es, rfl, he, hre, hbc⟩
                    have HDE := Lib.hid (HD1.out.one HST.out he)
                    have BC := Lib.hid (BB.out.trans (hbc.mono BB.out.size))
                    have RS := Lib.hid (own_below RS.out hbc)
                    have RD := Lib.hid (own_below RD.out hbc)
                    have RJ := Lib.hid (own_below RJ.out hbc)
                    have RE : Hid (HRow wr.heap.size es ve wc) := hre
                    clear he hre hbc HDH HD1 BB
                    go_wp2_with fail
                    refine (HRS.out _ BC.out).mono ?_
                    rintro e wd ⟨vt, rfl, hrt, hbd⟩
                    have BD := Lib.hid (BC.out.trans (hbd.mono BC.out.size))
                    have RS := Lib.hid (own_below RS.out hbd)
                    have RD := Lib.hid (own_below RD.out hbd)
                    have RJ := Lib.hid (own_below RJ.out hbd)
                    have RE := Lib.hid (own_below RE.out hbd)
                    obtain ⟨sa, scap, rfl, hs1, hs2, hs3, _⟩ := own_hlies rfl RS.out
                    obtain ⟨ta, tcap, rfl, ht1, ht2, ht3⟩ := hrt.lies
                    have HQ1 := Lib.hid (same_any os _ sa _ scap ta _ tcap wd rfl rfl (Nat.le_trans hs1 hs2) (Nat.le_trans ht1 ht2) hs3 ht3)
                    have HSO : Hid (os = insF (dropL hs (a, f.toList)) ⟨a, f, 5⟩) := HSO.out
                    clear hrt hbd HRS RS hs3 ht3
                    go_wp2_with fail
                    refine HQ1.out.mono ?_
                    rintro e we ⟨b1, rfl, hbe, hbe2⟩
                    obtain rfl : b1 = true := hbe.2 HSO.out
                    have BE := Lib.hid (BD.out.trans (hbe2.mono BD.out.size))
                    have RD := Lib.hid (own_below RD.out hbe2)
                    have RJ := Lib.hid (own_below RJ.out hbe2)
                    have RE := Lib.hid (own_below RE.out hbe2)
                    obtain ⟨da, dcap, rfl, hd1, hd2, hd3, _⟩ := own_hlies rfl RD.out
                    obtain ⟨ea, ecap, rfl, he1, he2, he3, _⟩ := own_hlies rfl RE.out
                    have HQ2 := Lib.hid (same_any ds es da _ dcap ea _ ecap we rfl rfl (Nat.le_trans hd1 hd2) (Nat.le_trans he1 he2) hd3 he3)
                    clear hbe hbe2 HQ1 HSO RD RE hd3 he3
                    go_wp2_with fail
                    refine HQ2.out.mono ?_
                    rintro e wf ⟨b2, rfl, hbe, hbf⟩
                    obtain rfl : b2 = true := hbe.2 HDE.out
                    have BF := Lib.hid (BE.out.trans (hbf.mono BE.out.size))
                    have RJ := Lib.hid (own_below RJ.out hbf)
                    clear hbe hbf HQ2 HDE
                    go_wp2_with fail
                    refine (HRJ.out _ BF.out).mono ?_
                    rintro e wg ⟨vk, rfl, hrk, hbg⟩
                    have BG := Lib.hid (BF.out.trans (hbg.mono BF.out.size))
                    have RJ := Lib.hid (own_below RJ.out hbg)
                    obtain ⟨ja, jcap, rfl, hj1, hj2, hj3, _⟩ := own_hlies rfl RJ.out
                    obtain ⟨ka, kcap, rfl, hk1, hk3, hk4⟩ := hrk.lies
                    have HQ3 := Lib.hid (sames_any _ _ ja _ jcap ka _ kcap wg rfl rfl (Nat.le_trans hj1 hj2) (Nat.le_trans hk1 hk3) hj3 hk4)
                    clear hrk hbg HRJ RJ hj3 hk4
                    go_wp2_with fail
                    refine HQ3.out.mono ?_
                    rintro e wh ⟨b3, rfl, hbe, hbh⟩
                    obtain rfl : b3 = true := hbe.2 HJE.out
                    have BH := Lib.hid (BG.out.trans (hbh.mono BG.out.size))
                    clear hbe hbh HQ3 HJE
                    go_wp2_with fail
                    go_ret
                    exact ⟨rfl, BH.out⟩
end Go.Proofs.Yteiomafciignkaa
