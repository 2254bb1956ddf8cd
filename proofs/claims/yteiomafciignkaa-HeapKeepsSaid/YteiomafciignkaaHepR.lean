/- HeapKeeps: its walk. -/
import Derived.Test.YteiomafciignkaaHepQ
set_option linter.unusedVariables false
set_option linter.unusedSimpArgs false
namespace Go.Proofs.Yteiomafciignkaa
set_option maxRecDepth 100000
open Go.RowKit

set_option maxHeartbeats 8000000 in
theorem heapKeeps_any (ad : Option Addr) (n cap : Nat) (hs : List HC) (a : Int) (f : ByteArray) (v : Int) (o : Int) (nm : ByteArray) (w : World) (h : CameH w ad n cap hs) :
    Calls Try.prog 6 #[.slice ad n cap, .int .i64 a, .string f, .int .i64 v, .int .i64 o, .string nm] w fun e w' => e = .returned (.bool true) ∧ Below w.heap.size w w' := by
  have HUP := Lib.hid (up_said17 w)
  have hnm : n ≤ 9223372036854775807 := by have := h.hc; omega
  have HCK := Lib.hid (fun W (hb : Below w.heap.size w W) => check_any hs ad n cap W h.hn hnm (h.lies.up hb))
  have n1 := fun t v W => Try.eqIface t v W
  have n2 := fun W => Try.eqNil W
  have n3 := fun W => Try.neCode 15 15 W
  have n4 : (!((15 : Int) == 15)) = false := by decide
  have n5 := fun t v W => Try.neIface t v W
  have n6 := fun W => Try.neNil W
  have HH := Lib.hid h
  clear h
  go_enter Try.func6, Try.ntmps6
  go_wp2_with fail
  refine HUP.out.mono ?_
  rintro e w1 ⟨rfl, hb1⟩
  have B1 := Lib.hid hb1
  clear hb1 HUP
  go_wp2_with fail
  refine (HCK.out _ B1.out).mono ?_
  rintro e w2 ⟨hc, hb2⟩
  have B2 := Lib.hid (B1.out.trans (hb2.mono B1.out.size))
  clear hb2 HCK
  rcases hc with ⟨hp, rfl⟩ | ⟨hp, rfl⟩
  · by_cases hbig : 500 < n
    · have hbigi : (n : Int) > 500 := by omega
      have hbigj : (500 : Int) < (n : Int) := by omega
      clear hp
      go_wp2_with fail
      go_ret
      exact ⟨rfl, B2.out⟩
    · have hbigi : ¬ (n : Int) > 500 := by omega
      have hbigj : ¬ (500 : Int) < (n : Int) := by omega
      have HST := Lib.hid hp.1
      have hin : ∀ i, i < hs.length → -9223372036854775808 ≤ (hs.getD i hc0).a ∧ (hs.getD i hc0).a ≤ 9223372036854775806 := fun i hi => by have := hp.2 i hi; unfold okC at this; omega
      have HSE := Lib.hid (fun W (hW : Below w.heap.size w W) => set_any hs ad n cap a f v W HH.out.hn (by omega) HH.out.hc HH.out.nil HH.out.sp (HH.out.lies.up hW) HST.out)
      have HG2 := Lib.hid (fun W (hW : Below w.heap.size w W) => get_any hs ad n cap o nm W HH.out.hn (by omega) (HH.out.lies.up hW) HST.out)
      have HGF := Lib.hid (fun W (hW : Below w.heap.size w W) (x : Int) => get_any hs ad n cap x nm W HH.out.hn (by omega) (HH.out.lies.up hW) HST.out)
      have HFR := Lib.hid (fun W (hW : Below w.heap.size w W) => fresh_any hs ad n cap W HH.out.hn (by omega) (HH.out.lies.up hW) hin)
      clear hp hin
      go_wp2_with fail
      refine (HSE.out _ B2.out).mono ?_
      rintro e w3 ⟨vs, os, rfl, hso, hrs, hb3⟩
      have B3 := Lib.hid (B2.out.trans (hb3.mono B2.out.size))
      have HSO := Lib.hid hso
      have HRS : Hid (HRow w2.heap.size os vs w3) := hrs
      have HOL : Hid (os.length ≤ 501) := by have := (setIs_len hso).1; rw [HH.out.hn] at this; show _ ≤ _; omega
      have HSS := Lib.hid (stand_setIs HST.out hso)
      clear hso hrs hb3 HSE
      obtain ⟨sa, scap, rfl, hs1, hs2, hs3, hs4⟩ := HRS.out.came
      have HL := Lib.hid hs4
      have HLU := Lib.hid (fun W (hW : Below w3.heap.size w3 W) => HL.out.up hW)
      clear hs4 hs2 hs3 HRS
      have HGS := Lib.hid (fun W (hW : Below w3.heap.size w3 W) => get_any os sa os.length scap a f W rfl (Nat.le_trans HOL.out (by decide)) (HLU.out W hW) HSS.out)
      have HGO := Lib.hid (fun W (hW : Below w3.heap.size w3 W) => get_any os sa os.length scap o nm W rfl (Nat.le_trans HOL.out (by decide)) (HLU.out W hW) HSS.out)
      have HDS := Lib.hid (fun W (hW : Below w3.heap.size w3 W) => drop_any os sa os.length scap a f W rfl (Nat.le_trans HOL.out (by decide)) hs1 (HLU.out W hW) HSS.out)
      go_wp2_with fail
      refine (HGS.out _ (Below.refl _ _)).mono ?_
      rintro e w4 ⟨x4, er4, rfl, hg4, hb4⟩
      obtain ⟨hx4, rfl⟩ := get_set (c := ⟨a, f, v⟩) HST.out HSO.out hg4
      have hx4 : x4 = v := hx4
      subst hx4
      have B4 := Lib.hid (B3.out.trans (hb4.mono B3.out.size))
      have C4 := Lib.hid hb4
      clear hg4 hb4 HGS
      go_wp2_with fail
      refine (HG2.out _ B4.out).mono ?_
      rintro e w5 ⟨x5, er5, rfl, hg5, hb5⟩
      have B5 := Lib.hid (B4.out.trans (hb5.mono B4.out.size))
      have C5 := Lib.hid (C4.out.trans (hb5.mono C4.out.size))
      have G5 := Lib.hid hg5
      clear hg5 hb5 HG2
      go_wp2_with fail
      refine (HGO.out _ C5.out).mono ?_
      rintro e w6 ⟨x6, er6, rfl, hg6, hb6⟩
      have B6 := Lib.hid (B5.out.trans (hb6.mono B5.out.size))
      have C6 := Lib.hid (C5.out.trans (hb6.mono C5.out.size))
      have HEQ : Hid ((o, nm.toList) ≠ (a, f.toList) → x5 = x6 ∧ er5 = er6) := fun hK => get_other (c := ⟨a, f, x4⟩) HST.out HSO.out hK G5.out hg6
      have HE6 : Hid (er6 = .nilIface ∨ ∃ t u, er6 = .iface t u) := by
        rcases getIs_mem hg6 with ⟨_, _, _, _, e⟩ | ⟨_, _, e⟩
        · exact .inl e
        · exact .inr ⟨_, _, e⟩
      have HE5 : Hid (er5 = .nilIface ∨ ∃ t u, er5 = .iface t u) := by
        rcases getIs_mem G5.out with ⟨_, _, _, _, e⟩ | ⟨_, _, e⟩
        · exact .inl e
        · exact .inr ⟨_, _, e⟩
      clear hg6 hb6 HGO G5
      go_wp2_with fail
      refine (HDS.out _ C6.out).mono ?_
      rintro e w7 ⟨vd, er7, ds, rfl, hd7, hrd, hb7⟩
      obtain ⟨rfl, hds, hsd, hback⟩ := drop_set (c := ⟨a, f, x4⟩) HST.out HSO.out hd7
      have B7 := Lib.hid (B6.out.trans (hb7.mono B6.out.size))
      have C7 := Lib.hid (C6.out.trans (hb7.mono C6.out.size))
      have HDD := Lib.hid hds
      have HSD := Lib.hid hsd
      have HBK := Lib.hid hback
      have HRD : Hid (HRow w6.heap.size ds vd w7) := hrd
      have HDL : Hid (ds.length ≤ 501) := by show _ ≤ _; rw [hds]; exact Nat.le_trans (dropL_len _ _) HOL.out
      clear hd7 hrd hb7 hds hsd hback HDS
      obtain ⟨da, dcap, rfl, hd1, hd2, hd3, hd4⟩ := HRD.out.came
      have HL2 := Lib.hid hd4
      have HD2 := Lib.hid hd2
      have HD3 := Lib.hid hd3
      clear hd4 HRD hd2 hd3
      have HGD := Lib.hid (fun W (hW : Below w7.heap.size w7 W) => get_any ds da ds.length dcap a f W rfl (Nat.le_trans HDL.out (by decide)) (HL2.out.up hW) HSD.out)
      have HSB := Lib.hid (fun W (hW : Below w7.heap.size w7 W) => set_any ds da ds.length dcap a f x4 W rfl (Nat.le_trans HDL.out (by decide)) hd1 HD2.out (fun _ => HD3.out) (HL2.out.up hW) HSD.out)
      go_wp2_with fail
      refine (HGD.out _ (Below.refl _ _)).mono ?_
      rintro e w8 ⟨x8, er8, rfl, hg8, hb8⟩
      obtain ⟨rfl, rfl⟩ := get_dropped HDD.out hg8
      have B8 := Lib.hid (B7.out.trans (hb8.mono B7.out.size))
      have C8 := Lib.hid (C7.out.trans (hb8.mono C7.out.size))
      have D8 := Lib.hid hb8
      clear hg8 hb8 HGD HDD
      go_wp2_with fail
      refine (HFR.out _ B8.out).mono ?_
      rintro e w9 ⟨rfl, rfl⟩
      have HFX : Hid (∀ y er, GetIs hs ((if n = 0 then 1 else (hs.getD (n - 1) hc0).a + 1), nm.toList) y er → er = E15) := fun y er hg => get_fresh (g := nm.toList) HST.out (by rw [HH.out.hn]; exact hg)
      generalize (if n = 0 then 1 else (hs.getD (n - 1) hc0).a + 1) = fr at HFX ⊢
      go_wp2_with fail
      refine (HGF.out _ B8.out fr).mono ?_
      rintro e w10 ⟨x10, er10, rfl, hg10, hb10⟩
      obtain rfl := HFX.out _ _ hg10
      have B10 := Lib.hid (B8.out.trans (hb10.mono B8.out.size))
      have C10 := Lib.hid (C8.out.trans (hb10.mono C8.out.size))
      have D10 := Lib.hid (D8.out.trans (hb10.mono D8.out.size))
      clear hg10 hb10 HGF HFX HFR
      have hxx : (x4 != x4) = false := by simp
      unfold E15
      by_cases ea : o = a
      · have hea : (o != a) = false := by simp [ea]
        by_cases ef : nm.toList = f.toList
        · have hef : (nm.toList != f.toList) = false := by simp [ef]
          have hef2 : (nm.toList == f.toList) = true := by simp [ef]
          clear HEQ HE5 HE6 ea ef
          go_wp2_with fail
          go_quiet (fail)
          go_wp2_with fail
          refine (HSB.out _ (below_drewN2 D10.out nq)).mono ?_
          rintro e w11 ⟨vt, os2, rfl, hso2, hrs2, hb11⟩
          have HS2 := Lib.hid (HBK.out _ hso2)
          have hbd : Below w10.heap.size w10 w11 := (below_drewN2 (Below.refl w10.heap.size w10) nq).trans hb11
          have B11 := Lib.hid (B10.out.trans (hbd.mono B10.out.size))
          obtain ⟨ta, tcap, rfl, ht1, ht2, ht3⟩ := HRow.lies hrs2
          have HSM := Lib.hid (same_any os2 os ta os2.length tcap sa os.length scap w11 rfl rfl (Nat.le_trans ht1 ht2) (Nat.le_trans HOL.out (by decide)) ht3 (HLU.out _ (C10.out.trans (hbd.mono C10.out.size))))
          clear hso2 hrs2 hb11 ht3 hbd HSB HBK
          go_wp2_with fail
          refine HSM.out.mono ?_
          rintro e w12 ⟨b12, rfl, hbe, hb12⟩
          obtain rfl : b12 = true := hbe.2 HS2.out
          have B12 := Lib.hid (B11.out.trans (hb12.mono B11.out.size))
          clear hbe hb12 HSM HS2
          go_wp2_with fail
          go_ret
          exact ⟨rfl, B12.out⟩
        · have hef : (nm.toList != f.toList) = true := by simp [ef]
          have hef2 : (nm.toList == f.toList) = false := by simp [ef]
          obtain ⟨e1, e2⟩ := HEQ.out (fun e => ef (Prod.mk.inj e).2)
          subst e1 e2
          have hx5 : (x5 != x5) = false := by simp
          rcases HE5.out with e3 | ⟨t, u, e3⟩
          · subst e3
            clear HEQ HE5 HE6
            go_wp2_with fail
            go_quiet (fail)
            go_wp2_with fail
            refine (HSB.out _ (below_drewN2 D10.out nq)).mono ?_
            rintro e w11 ⟨vt, os2, rfl, hso2, hrs2, hb11⟩
            have HS2 := Lib.hid (HBK.out _ hso2)
            have hbd : Below w10.heap.size w10 w11 := (below_drewN2 (Below.refl w10.heap.size w10) nq).trans hb11
            have B11 := Lib.hid (B10.out.trans (hbd.mono B10.out.size))
            obtain ⟨ta, tcap, rfl, ht1, ht2, ht3⟩ := HRow.lies hrs2
            have HSM := Lib.hid (same_any os2 os ta os2.length tcap sa os.length scap w11 rfl rfl (Nat.le_trans ht1 ht2) (Nat.le_trans HOL.out (by decide)) ht3 (HLU.out _ (C10.out.trans (hbd.mono C10.out.size))))
            clear hso2 hrs2 hb11 ht3 hbd HSB HBK
            go_wp2_with fail
            refine HSM.out.mono ?_
            rintro e w12 ⟨b12, rfl, hbe, hb12⟩
            obtain rfl : b12 = true := hbe.2 HS2.out
            have B12 := Lib.hid (B11.out.trans (hb12.mono B11.out.size))
            clear hbe hb12 HSM HS2
            go_wp2_with fail
            go_ret
            exact ⟨rfl, B12.out⟩
          · subst e3
            clear HEQ HE5 HE6
            go_wp2_with fail
            go_quiet (fail)
            go_wp2_with fail
            refine (HSB.out _ (below_drewN2 D10.out nq)).mono ?_
            rintro e w11 ⟨vt, os2, rfl, hso2, hrs2, hb11⟩
            have HS2 := Lib.hid (HBK.out _ hso2)
            have hbd : Below w10.heap.size w10 w11 := (below_drewN2 (Below.refl w10.heap.size w10) nq).trans hb11
            have B11 := Lib.hid (B10.out.trans (hbd.mono B10.out.size))
            obtain ⟨ta, tcap, rfl, ht1, ht2, ht3⟩ := HRow.lies hrs2
            have HSM := Lib.hid (same_any os2 os ta os2.length tcap sa os.length scap w11 rfl rfl (Nat.le_trans ht1 ht2) (Nat.le_trans HOL.out (by decide)) ht3 (HLU.out _ (C10.out.trans (hbd.mono C10.out.size))))
            clear hso2 hrs2 hb11 ht3 hbd HSB HBK
            go_wp2_with fail
            refine HSM.out.mono ?_
            rintro e w12 ⟨b12, rfl, hbe, hb12⟩
            obtain rfl : b12 = true := hbe.2 HS2.out
            have B12 := Lib.hid (B11.out.trans (hb12.mono B11.out.size))
            clear hbe hb12 HSM HS2
            go_wp2_with fail
            go_ret
            exact ⟨rfl, B12.out⟩
      · have hea : (o != a) = true := by simp [ea]
        obtain ⟨e1, e2⟩ := HEQ.out (fun e => ea (Prod.mk.inj e).1)
        subst e1 e2
        have hx5 : (x5 != x5) = false := by simp
        rcases HE5.out with e3 | ⟨t, u, e3⟩
        · subst e3
          clear HEQ HE5 HE6
          go_wp2_with fail
          go_quiet (fail)
          go_wp2_with fail
          refine (HSB.out _ (below_drewN2 D10.out nq)).mono ?_
          rintro e w11 ⟨vt, os2, rfl, hso2, hrs2, hb11⟩
          have HS2 := Lib.hid (HBK.out _ hso2)
          have hbd : Below w10.heap.size w10 w11 := (below_drewN2 (Below.refl w10.heap.size w10) nq).trans hb11
          have B11 := Lib.hid (B10.out.trans (hbd.mono B10.out.size))
          obtain ⟨ta, tcap, rfl, ht1, ht2, ht3⟩ := HRow.lies hrs2
          have HSM := Lib.hid (same_any os2 os ta os2.length tcap sa os.length scap w11 rfl rfl (Nat.le_trans ht1 ht2) (Nat.le_trans HOL.out (by decide)) ht3 (HLU.out _ (C10.out.trans (hbd.mono C10.out.size))))
          clear hso2 hrs2 hb11 ht3 hbd HSB HBK
          go_wp2_with fail
          refine HSM.out.mono ?_
          rintro e w12 ⟨b12, rfl, hbe, hb12⟩
          obtain rfl : b12 = true := hbe.2 HS2.out
          have B12 := Lib.hid (B11.out.trans (hb12.mono B11.out.size))
          clear hbe hb12 HSM HS2
          go_wp2_with fail
          go_ret
          exact ⟨rfl, B12.out⟩
        · subst e3
          clear HEQ HE5 HE6
          go_wp2_with fail
          go_quiet (fail)
          go_wp2_with fail
          refine (HSB.out _ (below_drewN2 D10.out nq)).mono ?_
          rintro e w11 ⟨vt, os2, rfl, hso2, hrs2, hb11⟩
          have HS2 := Lib.hid (HBK.out _ hso2)
          have hbd : Below w10.heap.size w10 w11 := (below_drewN2 (Below.refl w10.heap.size w10) nq).trans hb11
          have B11 := Lib.hid (B10.out.trans (hbd.mono B10.out.size))
          obtain ⟨ta, tcap, rfl, ht1, ht2, ht3⟩ := HRow.lies hrs2
          have HSM := Lib.hid (same_any os2 os ta os2.length tcap sa os.length scap w11 rfl rfl (Nat.le_trans ht1 ht2) (Nat.le_trans HOL.out (by decide)) ht3 (HLU.out _ (C10.out.trans (hbd.mono C10.out.size))))
          clear hso2 hrs2 hb11 ht3 hbd HSB HBK
          go_wp2_with fail
          refine HSM.out.mono ?_
          rintro e w12 ⟨b12, rfl, hbe, hb12⟩
          obtain rfl : b12 = true := hbe.2 HS2.out
          have B12 := Lib.hid (B11.out.trans (hb12.mono B11.out.size))
          clear hbe hb12 HSM HS2
          go_wp2_with fail
          go_ret
          exact ⟨rfl, B12.out⟩
  · clear hp
    go_wp2_with fail
    go_ret
    exact ⟨rfl, B2.out⟩
end Go.Proofs.Yteiomafciignkaa
