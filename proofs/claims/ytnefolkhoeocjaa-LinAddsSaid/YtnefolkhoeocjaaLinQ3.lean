/- The walk of LinAdds. -/
import Derived.Test.YtnefolkhoeocjaaLinK3
import Derived.Test.YtnefolkhoeocjaaLinQ5
namespace Go.Proofs.Ytnefolkhoeocjaa
open Go.RowKit

set_option maxHeartbeats 2000000 in
theorem linAdds_any (hup : UpSaid) (ca cb x y : Int) (a b : Option Addr) (na nb capa capb : Nat) (la lb : List (Int × Int)) (w : World) (hna : la.length = na) (hnb : lb.length = nb) (hma : na ≤ 9223372036854775807) (hmb : nb ≤ 9223372036854775807)
    (hla : Lies w.heap.size w a la) (hlb : Lies w.heap.size w b lb) :
    Calls Try.prog 5 #[.agg #[.int .i64 ca, .slice a na capa], .agg #[.int .i64 cb, .slice b nb capb], .int .i64 x, .int .i64 y] w fun e w' => e = .returned (.bool true) ∧ Below w.heap.size w w' := by
  have T0 := Lib.hid (two_start w ca cb a b na nb capa capb)
  obtain ⟨c', R', z, r, h64, had, hrd, hco⟩ := add_same ca cb x y a b na nb capa capb la lb w hna hnb hma hmb hla hlb
  have HAD := Lib.hid had
  have HRD := Lib.hid hrd
  have HCO := Lib.hid hco
  clear had hrd hco hna hnb hla hlb hma hmb
  go_enter Try.func5, Try.ntmps5
  go_wp2_with fail
  refine (hup _).mono ?_
  rintro e w1 ⟨rfl, hb1⟩
  have T1 := Lib.hid (T0.out.below hb1 T0.out.lt)
  obtain ⟨l1, l10, a10, a11, b10, b11, _⟩ := T1.out
  clear hb1
  go_wp2_with fail
  refine (HAD.out _ T1.out.bel).mono ?_
  rintro e w2 ⟨v2, rfl, hrow2, hb2⟩
  obtain ⟨a2, cap2, rfl, hlies2, _⟩ := hrow2.lies
  have HL2 := Lib.hid hlies2
  have T2 := Lib.hid (T1.out.below hb2 T1.out.lt)
  clear hb2 hrow2 hlies2 a10 a11 b10 b11 l1 l10
  have T2b := Lib.hid (T2.out.below ((Below.refl _ w2).alloc (Nat.le_refl _) (.cells #[.int .i64 c', .slice a2 R'.length cap2] 24)) T2.out.lt)
  obtain ⟨l2, l20, a20, a21, b20, b21, _⟩ := T2.out
  have B2c : Hid (Below w2.heap.size w2 (w2.alloc (.cells #[.int .i64 c', .slice a2 R'.length cap2] 24))) := (Below.refl _ w2).alloc (Nat.le_refl _) _
  go_wp2_with fail
  refine (HRD.out _ T2b.out.bel).mono ?_
  rintro e w3 ⟨v3, rfl, hrow3, hb3⟩
  obtain ⟨a3, cap3, rfl, hlies3, _⟩ := hrow3.lies
  have B3 : Hid (Below w2.heap.size w2 w3) := B2c.out.trans (hb3.mono B2c.out.size)
  have z2 : w2.heap.size < w3.heap.size := by have := hb3.size; simp at this; omega
  have HSM := Lib.hid (fun W (hb : Below w3.heap.size w3 W) => same_any c' c' a2 a3 R'.length R'.length cap2 cap3 R' R' W rfl rfl (by omega) (by omega) (((HL2.out.below B3.out).below (hb.mono B3.out.size)).mono (Nat.le_trans B3.out.size hb.size)) ((hlies3.below hb).mono hb.size))
  have hsm : same c' c' R' R' = true := by unfold same; simp
  rw [hsm] at HSM
  have g0 : w3.cell? ⟨w2.heap.size, 0, none⟩ = some (.int .i64 c') := by rw [hb3.cell (p := ⟨w2.heap.size, 0, none⟩) (by simp)]; simp
  have g1 : w3.cell? ⟨w2.heap.size, 1, none⟩ = some (.slice a2 R'.length cap2) := by rw [hb3.cell (p := ⟨w2.heap.size, 1, none⟩) (by simp)]; simp
  have e2 : (r == r) = true := by simp
  have B4 := Lib.hid ((Below.refl _ w3).alloc (Nat.le_refl _) (.cells #[.int .i64 c', .slice a3 R'.length cap3] 24))
  have BW : Hid (Below w.heap.size w w3) := T2b.out.bel.trans (hb3.mono T2b.out.bel.size)
  clear hb3 hrow3 hlies3 hsm a20 a21 b20 b21 l2 l20
  go_wp2_with fail
  refine (HSM.out _ B4.out).mono ?_
  rintro e w5 ⟨rfl, hb5⟩
  have B5 : Hid (Below w.heap.size w w5) := BW.out.trans ((B4.out.mono BW.out.size).trans (hb5.mono (by have := BW.out.size; simp; omega)))
  clear hb5
  go_wp2_with fail
  refine (HCO.out _).mono ?_
  rintro e w' ⟨rfl, rfl⟩
  go_wp2_with fail
  go_ret
  exact ⟨rfl, B5.out⟩
end Go.Proofs.Ytnefolkhoeocjaa
