/- The walk of LinMakes. -/
import Derived.Test.YtnefolkhoeocjaaLinK2
namespace Go.Proofs.Ytnefolkhoeocjaa
open Go.RowKit

set_option maxHeartbeats 2000000 in
theorem linMakes_any (hup : UpSaid) (c : Int) (a : Option Addr) (n cap : Nat) (l : List (Int × Int)) (w : World) (hn : l.length = n) (hm : n ≤ 9223372036854775807) (hl : Lies w.heap.size w a l) (hnil : a = none → n = 0 ∧ cap = 0) :
    Calls Try.prog 4 #[.int .i64 c, .slice a n cap] w fun e w' => e = .returned (.bool true) ∧ Below w.heap.size w w' := by
  obtain ⟨c', R', x, r, h64, hmk, hrm, hco⟩ := make_same c a n cap l w hn hm hl hnil
  have HMK := Lib.hid hmk
  have HRM := Lib.hid hrm
  have HCO := Lib.hid hco
  clear hmk hrm hco hn hl hnil hm
  go_enter Try.func4, Try.ntmps4
  go_wp2_with fail
  refine (hup _).mono ?_
  rintro e w1 ⟨rfl, hb1⟩
  have B1 := Lib.hid hb1
  clear hb1
  go_wp2_with fail
  refine (HMK.out _ B1.out).mono ?_
  rintro e w2 ⟨v2, rfl, hrow2, hb2⟩
  obtain ⟨a2, cap2, rfl, hlies2, _⟩ := hrow2.lies
  have HL2 := Lib.hid hlies2
  have B2 := Lib.hid hb2
  have z1 := Lib.hid B1.out.size
  clear hb2 hrow2 hlies2
  go_wp2_with fail
  have B2w : Hid (Below w.heap.size w w2) := B1.out.trans (B2.out.mono z1.out)
  have B2c : Hid (Below w2.heap.size w2 (w2.alloc (.cells #[.int .i64 c', .slice a2 R'.length cap2] 24))) := (Below.refl _ w2).alloc (Nat.le_refl _) _
  refine (HRM.out _ (B2w.out.trans (B2c.out.mono B2w.out.size))).mono ?_
  rintro e w3 ⟨v3, rfl, hrow3, hb3⟩
  obtain ⟨a3, cap3, rfl, hlies3, _⟩ := hrow3.lies
  have B3 : Hid (Below w2.heap.size w2 w3) := B2c.out.trans (hb3.mono B2c.out.size)
  have z2 : w2.heap.size < w3.heap.size := by have := hb3.size; simp at this; omega
  have HSM := Lib.hid (fun W (hb : Below w3.heap.size w3 W) => same_any c' c' a2 a3 R'.length R'.length cap2 cap3 R' R' W rfl rfl (by omega) (by omega) (((HL2.out.below B3.out).below (hb.mono B3.out.size)).mono (Nat.le_trans B3.out.size hb.size)) ((hlies3.below hb).mono hb.size))
  have hsm : same c' c' R' R' = true := by unfold same; simp
  rw [hsm] at HSM
  have g0 : w3.cell? ⟨w2.heap.size, 0, none⟩ = some (.int .i64 c') := by rw [hb3.cell (p := ⟨w2.heap.size, 0, none⟩) (by simp)]; simp
  have g1 : w3.cell? ⟨w2.heap.size, 1, none⟩ = some (.slice a2 R'.length cap2) := by rw [hb3.cell (p := ⟨w2.heap.size, 1, none⟩) (by simp)]; simp
  have e2 : (r == r) = true := by simp
  have B4 := Lib.hid ((Below.refl _ w3).alloc (Nat.le_refl _) (.cells #[.int .i64 c', .slice a3 R'.length cap3] 24))
  have BW : Hid (Below w.heap.size w w3) := (B2w.out.trans (B3.out.mono B2w.out.size))
  clear hb3 hrow3 hlies3 hsm
  go_wp2_with fail
  refine (HSM.out _ B4.out).mono ?_
  rintro e w5 ⟨rfl, hb5⟩
  have B5 : Hid (Below w.heap.size w w5) := BW.out.trans ((B4.out.mono BW.out.size).trans (hb5.mono (by have := BW.out.size; simp; omega)))
  clear hb5
  go_wp2_with fail
  refine (HCO.out _).mono ?_
  rintro e w' ⟨rfl, rfl⟩
  go_wp2_with fail
  go_ret
  exact ⟨rfl, B5.out⟩
end Go.Proofs.Ytnefolkhoeocjaa
