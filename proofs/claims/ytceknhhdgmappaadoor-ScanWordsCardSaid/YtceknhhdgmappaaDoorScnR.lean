/- ScanWords: its walk. -/
import Derived.Test.YtceknhhdgmappaaDoorScnQ
set_option linter.unusedVariables false
set_option linter.unusedSimpArgs false
namespace Go.Proofs.YtceknhhdgmappaaDoor
set_option maxRecDepth 100000
open Go.RowKit

set_option maxHeartbeats 2000000 in
theorem scanWords_any (hup : UpSaid13) (s : ByteArray) (w : World) (hs : s.size ≤ 9223372036854775807) (hL : Laid w) :
    Calls Tryd.prog 4 #[.string s] w fun e w' => e = .returned (.bool true) ∧ Below w.heap.size w w' := by
  have HUP := Lib.hid (hup w hL)
  have HK := Lib.hid (fun W (hb : Below w.heap.size w W) => key_any s W (hL.up hb))
  have HRK := Lib.hid (fun W => rkey_any s W)
  have HN := Lib.hid (fun W (hb : Below w.heap.size w W) => name_any s W hs (hL.up hb))
  have HRN := Lib.hid (fun W => rname_any s W hs)
  have e1 : ∀ (z : Bool) (W : World), (binOp .eql 4 (.bool z) (.bool z)).run Tryd.prog W = .ok (.bool true) W := fun z W => by simp [go_sem]
  generalize keyB s.data.toList = kb at *
  generalize nameB s.data.toList = nb at *
  clear hL
  by_cases h : 5000 < s.size
  · have hi : (5000 : Int) < (s.size : Int) := by omega
    go_enter Tryd.func4, Tryd.ntmps4
    go_wp2_with fail
    refine HUP.out.mono ?_
    rintro e w1 ⟨rfl, hb1⟩
    go_wp2_with fail
    go_ret
    exact ⟨rfl, hb1⟩
  · have hi : ¬ (5000 : Int) < (s.size : Int) := by omega
    go_enter Tryd.func4, Tryd.ntmps4
    go_wp2_with fail
    refine HUP.out.mono ?_
    rintro e w1 ⟨rfl, hb1⟩
    have B1 := Lib.hid hb1
    clear hb1 HUP
    go_wp2_with fail
    refine (HK.out _ B1.out).mono ?_
    rintro e w2 ⟨rfl, rfl⟩
    go_wp2_with fail
    refine (HRK.out _).mono ?_
    rintro e w3 ⟨rfl, hb3⟩
    have B3 := Lib.hid (B1.out.trans (hb3.mono B1.out.size))
    clear hb3 HK HRK
    go_wp2_with fail
    refine (HN.out _ B3.out).mono ?_
    rintro e w4 ⟨rfl, hb4⟩
    have B4 := Lib.hid (B3.out.trans (hb4.mono B3.out.size))
    clear hb4 HN
    go_wp2_with fail
    refine (HRN.out _).mono ?_
    rintro e w5 ⟨rfl, hb5⟩
    have B5 := Lib.hid (B4.out.trans (hb5.mono B4.out.size))
    clear hb5 HRN
    go_wp2_with fail
    go_ret
    exact ⟨rfl, B5.out⟩
end Go.Proofs.YtceknhhdgmappaaDoor
