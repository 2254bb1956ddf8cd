/- RupChecks: its walk. -/
import Derived.Test.YtlnkgemndojdnaaDoorRupF
set_option linter.unusedVariables false
set_option linter.unusedSimpArgs false
namespace Go.Proofs.YtlnkgemndojdnaaDoor
set_option maxRecDepth 100000
open Go.RowKit

theorem ErrIs.below {B : Nat} {x at' : Int} {er : Value} {w w' : World} (h : ErrIs B x at' er w) (hb : Below w.heap.size w w') : ErrIs B x at' er w' :=
  ⟨h.1, fun h0 => by
    obtain ⟨g, e, hg, hlt, h1, h2⟩ := h.2 h0
    exact ⟨g, e, hg, Nat.lt_of_lt_of_le hlt hb.size, (hb.cell (p := ⟨g, 0, none⟩) hlt).trans h1, (hb.cell (p := ⟨g, 1, none⟩) hlt).trans h2⟩⟩
set_option maxHeartbeats 2000000 in
theorem rupChecks_any (hup : UpSaid7) (hbeg : BeginSaid) (n : Int) (a : Option Addr) (m cap : Nat) (cs : List (List Int)) (a2 : Option Addr) (m2 cap2 : Nat) (ss : List (List Int)) (w : World) (h1 : GivenC w a m cs) (h2 : GivenC w a2 m2 ss) (hg : Laid0 w) :
    Calls Tryd.prog 3 #[.int .i64 n, .slice a m cap, .slice a2 m2 cap2] w fun e w' => e = .returned (.bool true) ∧ Below w.heap.size w w' := by
  have HUP := Lib.hid (hup w hg)
  have HG := Lib.hid hg
  have H1 := Lib.hid h1
  have H2 := Lib.hid h2
  have HLI := Lib.hid (fun W (g1 : GivenC W a m cs) (g2 : GivenC W a2 m2 ss) => easy_any n a m cap cs a2 m2 cap2 ss W g1 g2)
  have HRU := Lib.hid (fun W (g1 : GivenC W a m cs) (g2 : GivenC W a2 m2 ss) (hf : Easy n cs ss) => rup_any hbeg n a m cap cs a2 m2 cap2 ss W g1 g2 hf.few)
  have HRR := Lib.hid (fun W (g1 : GivenC W a m cs) (g2 : GivenC W a2 m2 ss) (hf : Easy n cs ss) => rrup_any n a m cap cs a2 m2 cap2 ss W g1 g2 hf.few)
  clear hup hbeg h1 h2 hg
  go_enter Tryd.func3, Tryd.ntmps3
  go_wp2_with fail
  refine HUP.out.mono ?_
  rintro e w1 ⟨rfl, hb1⟩
  have B1 := Lib.hid hb1
  clear hb1 HUP
  go_wp2_with fail
  refine (HLI.out _ (H1.out.below B1.out) (H2.out.below B1.out)).mono ?_
  rintro e w2 ⟨b, rfl, rfl, hlt⟩
  cases b with
  | false =>
    clear hlt
    go_wp2_with fail
    go_ret
    exact ⟨rfl, B1.out⟩
  | true =>
    have HE := Lib.hid (hlt rfl)
    clear hlt HLI
    go_wp2_with fail
    refine (HRU.out _ (H1.out.below B1.out) (H2.out.below B1.out) HE.out).mono ?_
    rintro e w3 ⟨er, x, at', rfl, hr, he, hb3⟩
    have B3 := Lib.hid (B1.out.trans (hb3.mono B1.out.size))
    have HR := Lib.hid hr
    have HER := Lib.hid he
    clear hr he hb3 HRU
    go_wp2_with fail
    refine (HRR.out _ (H1.out.below B3.out) (H2.out.below B3.out) HE.out).mono ?_
    rintro e w4 ⟨x2, at2, rfl, hr2, hb4⟩
    obtain ⟨rfl, rfl⟩ := HR.out.unique hr2
    have B4 := Lib.hid (B3.out.trans (hb4.mono B3.out.size))
    have HT := Lib.hid (etold_any (HER.out.below hb4) HR.out.in.1 HR.out.in.2.1 (HG.out.below B4.out HG.out.pos))
    clear hr2 hb4 HRR HR HER
    go_wp2_with fail
    refine HT.out.mono ?_
    rintro e w5 ⟨rfl, hb5⟩
    have B5 := Lib.hid (B4.out.trans (hb5.mono B4.out.size))
    clear hb5 HT
    go_wp2_with fail
    go_ret
    exact ⟨rfl, B5.out⟩
end Go.Proofs.YtlnkgemndojdnaaDoor
