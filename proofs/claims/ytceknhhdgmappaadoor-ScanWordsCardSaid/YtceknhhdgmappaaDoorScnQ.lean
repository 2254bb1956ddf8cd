/- The document's examples of layer 13. -/
import Derived.Test.YtceknhhdgmappaaDoorScnN
set_option linter.unusedVariables false
set_option linter.unusedSimpArgs false
namespace Go.Proofs.YtceknhhdgmappaaDoor
set_option maxRecDepth 100000
open Go.RowKit

def s1 : ByteArray := ⟨#[120, 58, 61, 103, 101, 116, 32, 121, 46, 102, 59]⟩
def s2 : ByteArray := ⟨#[48, 49]⟩
theorem res1 : resOf s1 = (0, -1, [⟨1, 0, ⟨#[120]⟩⟩, ⟨4, 1, ⟨#[58, 61]⟩⟩, ⟨2, 3, ⟨#[103, 101, 116]⟩⟩, ⟨1, 7, ⟨#[121]⟩⟩, ⟨4, 8, ⟨#[46]⟩⟩, ⟨1, 9, ⟨#[102]⟩⟩, ⟨4, 10, ⟨#[59]⟩⟩]) := by kernel_rfl
theorem res2 : resOf s2 = (5, 0, []) := by kernel_rfl
theorem TRow.form {B : Nat} {ts : List Tok} {v : Value} {w : World} (hr : TRow B ts v w) (hpos : 0 < ts.length) : ∃ g cap, v = .slice (some ⟨g, 0, none⟩) ts.length cap ∧ g < w.heap.size ∧ ts.length ≤ cap ∧ cap ≤ 9223372036854775807 ∧ ∀ i, i < ts.length → w.cell? ⟨g, i * 3, none⟩ = some (.int .i64 (ts.getD i tok0).kind) ∧ w.cell? ⟨g, i * 3 + 1, none⟩ = some (.int .i64 ((ts.getD i tok0).at' : Int)) ∧ w.cell? ⟨g, i * 3 + 2, none⟩ = some (.string (ts.getD i tok0).text) := by
  have hc := fun g => World.ownsRow.cells hr (g := g)
  have hlt := World.ownsRow.lt hr
  obtain ⟨_, h1 | ⟨g, cap, cur, hv, h2⟩⟩ := hr
  · exact absurd h1.2 (by omega)
  · subst hv
    refine ⟨g, cap, rfl, (hlt g rfl).2, h2.2.2.1, h2.2.2.2.1, fun i hi => ?_⟩
    obtain ⟨g1, g2, g3⟩ := tcells_get ts i hi
    have c1 := hc g rfl _ _ g1
    have c2 := hc g rfl _ _ g2
    have c3 := hc g rfl _ _ g3
    have ea : ∀ k, (⟨g, 0, none⟩ : Addr).add k = ⟨g, k, none⟩ := fun k => by unfold Addr.add; split <;> simp_all
    rw [ea] at c1 c2 c3
    exact ⟨c1, c2, c3⟩
def UpSaid13 : Prop := ∀ w : World, Laid w → Calls Tryd.prog 6 #[] w fun e w' => e = .returned (.bool true) ∧ Below w.heap.size w w'
set_option maxHeartbeats 4000000 in
theorem up_said13 : UpSaid13 := fun w hL => by
  have H1 := Lib.hid (scan_any s1 w (by decide) hL)
  have H2 := Lib.hid (fun W (hb : Below w.heap.size w W) => scan_any s2 W (by decide) (hL.up hb))
  have HL := Lib.hid (fun W (hb : Below w.heap.size w W) => hL.up hb)
  rw [res1] at H1
  rw [res2] at H2
  unfold s1 at H1
  unfold s2 at H2
  have n2 := fun W => Tryd.eqNil W
  clear hL
  go_enter Tryd.func6, Tryd.ntmps6
  go_wp2_with fail
  refine H1.out.mono ?_
  rintro e w1 ⟨v, er, rfl, hrow, her, hb1⟩
  obtain rfl : er = .nilIface := her.1 (by decide)
  obtain ⟨g, cap, rfl, hgl, hcap1, hcap2, hcs⟩ := TRow.form hrow (by decide)
  have c1 := (hcs 1 (by decide)).2.2
  have c3 := (hcs 3 (by decide)).2.1
  have B1 := Lib.hid hb1
  have C1 := Lib.hid c1
  have C3 := Lib.hid c3
  have HGL := Lib.hid hgl
  clear hrow her hb1 hcs H1 c1 c3 hgl
  go_wp2_with fail
  refine (H2.out _ B1.out).mono ?_
  rintro e w2 ⟨v2, er2, rfl, hrow2, her2, hb2⟩
  obtain ⟨g2, rfl, _, hg2l, e4, e5⟩ := her2.2 (by decide)
  have c1 := (hb2.cell (p := ⟨g, 1 * 3 + 2, none⟩) HGL.out).trans C1.out
  have c3 := (hb2.cell (p := ⟨g, 3 * 3 + 1, none⟩) HGL.out).trans C3.out
  have B2 := Lib.hid (B1.out.trans (hb2.mono B1.out.size))
  have HI := Lib.hid (sis_any g2 0 5 w2 (HL.out _ B2.out).err hg2l e4 e5)
  obtain ⟨a5, cap5, rfl⟩ := TRow.slice hrow2
  have d1 : w2.cell? ⟨g, 5, none⟩ = some (.string ⟨#[58, 61]⟩) := c1
  have d3 : w2.cell? ⟨g, 10, none⟩ = some (.int .i64 7) := c3
  clear hrow2 her2 hb2 H2 c1 c3 e4 e5 C1 C3 HGL HL
  go_wp2_with fail
  refine HI.out.mono ?_
  rintro e w3 ⟨rfl, hb3⟩
  have B3 := Lib.hid (B2.out.trans (hb3.mono B2.out.size))
  clear hb3 HI
  go_wp2_with fail
  go_ret
  exact ⟨rfl, B3.out⟩
end Go.Proofs.YtceknhhdgmappaaDoor
