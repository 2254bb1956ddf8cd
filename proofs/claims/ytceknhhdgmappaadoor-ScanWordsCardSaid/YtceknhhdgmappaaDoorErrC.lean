/- Whether an error is a Spot with its place and code; Told. -/
import Derived.Test.YtceknhhdgmappaaDoorErrB
set_option linter.unusedVariables false
set_option linter.unusedSimpArgs false
namespace Go.Proofs.YtceknhhdgmappaaDoor
set_option maxRecDepth 100000
open Go.RowKit Go.Extern.Stop Go.Stop Go.Extern

/-- The listed variable's cell. -/
def Laid0 (w : World) : Prop := w.cell? ⟨2, 0, none⟩ = some (.iface 75 (.agg #[.pointer (some ⟨8, 25, none⟩)]))
theorem Laid0.pos {w : World} (h : Laid0 w) : 2 < w.heap.size := block_lt_of_cell (a := ⟨2, 0, none⟩) h
theorem Laid0.below {w w' : World} {B : Nat} (h : Laid0 w) (hb : Below B w w') (hB : 2 < B) : Laid0 w' := (hb.cell (p := ⟨2, 0, none⟩) hB).trans h
theorem Tryd.isCompP : (Tryd.prog.info? 43).map (·.comparable) = some true := by kernel_rfl
theorem Tryd.isSizeS : (Tryd.prog.info? 45).map (·.size) = some 2 := by kernel_rfl
theorem Tryd.neSame (g : Addr) (W : World) : (binOp .neq 25 (.iface 43 (.pointer (some g))) (.iface 43 (.pointer (some g)))).run Tryd.prog W = .ok (.bool false) W := by
  obtain ⟨i, hi, hcmp⟩ := Option.map_eq_some_iff.1 Tryd.isCompP
  obtain ⟨j, hj, hjs⟩ := Option.map_eq_some_iff.1 Tryd.isSizeS
  simp only [binOp]
  simp [Op.equal, Op.maxDepth, run_equalIn_iface_ptr_same (P := Tryd.prog) W 9998 g Tryd.underlying25 Tryd.underlying43 hi hcmp hj]

set_option maxHeartbeats 1000000 in
theorem sis_any (g : Nat) (at' k : Int) (w : World) (hg : Laid0 w) (hgb : g < w.heap.size) (h0 : w.cell? ⟨g, 0, none⟩ = some (.int .i64 at')) (h1 : w.cell? ⟨g, 1, none⟩ = some (.iface 39 (.int .i64 k))) :
    Calls Tryd.prog 16 #[.iface 43 (.pointer (some ⟨g, 0, none⟩)), .int .i64 at', .int .i64 k] w fun e w' => e = .returned (.bool true) ∧ Below w.heap.size w w' := by
  have hb0 : Below w.heap.size w (w.alloc (.cells #[.pointer none] 43)) := (Below.refl _ w).alloc (Nat.le_refl _) _
  have hn := heap_alloc_new w (.cells #[.pointer none] 43)
  have HAS := Lib.hid (as_spot ⟨g, 0, none⟩ w.heap.size (.pointer none) (w.alloc (.cells #[.pointer none] 43)) (hg.below hb0 hg.pos) ((cell_of_row _ _ _ _ _ _ hn).trans rfl) (frozen_of_row _ _ _ _ _ hn) (by simp))
  have HB0 := Lib.hid hb0
  have HIS := Lib.hid (fun W h => is_spotcode g k W h)
  have ne := Tryd.neSame ⟨g, 0, none⟩
  have e1 := fun W => Tryd.eqCode k k W
  have hkk : (k == k) = true := by simp
  have haa : (at' == at') = true := by simp
  clear hg hn hb0
  go_enter Tryd.func16, Tryd.ntmps16
  go_wp2_with fail
  refine HAS.out.mono ?_
  rintro e w1 ⟨rfl, hc1, hb1, hz1⟩
  have q0 : w1.cell? ⟨g, 0, none⟩ = some (.int .i64 at') := (hb1.cell (p := ⟨g, 0, none⟩) hgb).trans ((HB0.out.cell (p := ⟨g, 0, none⟩) hgb).trans h0)
  have q1 : w1.cell? ⟨g, 1, none⟩ = some (.iface 39 (.int .i64 k)) := (hb1.cell (p := ⟨g, 1, none⟩) hgb).trans ((HB0.out.cell (p := ⟨g, 1, none⟩) hgb).trans h1)
  have HB1 : Hid (Below w.heap.size w w1) := HB0.out.trans hb1
  clear hb1 h0 h1 HAS
  go_wp2_with fail
  refine (HIS.out _ q1).mono ?_
  rintro e w2 ⟨rfl, rfl⟩
  go_wp2_with fail
  go_ret
  exact ⟨rfl, HB1.out⟩

/-- Told: the error is the one of this number, at this place. -/
theorem etold_any {B : Nat} {x at' : Int} {er : Value} {w : World} (h : ErrIs B x at' er w) (hx : 0 ≤ x ∧ x ≤ 16) (hp : 0 ≤ at' → x ≠ 0) (hg : Laid0 w) :
    Calls Tryd.prog 10 #[er, .int .i64 x, .int .i64 at'] w fun e w' => e = .returned (.bool true) ∧ Below w.heap.size w w' := by
  have hxx : (x == x) = true := by simp
  by_cases ha : at' < 0
  · have HC : Hid (∀ W, Calls Tryd.prog 15 #[codeV x] W fun e w' => e = .returned (.int .i64 x) ∧ W = w') := fun W => by
      by_cases h0 : x = 0
      · rw [h0, codeV_zero]; exact code_nil W
      · rw [codeV_ne h0]; exact code_k x W (by omega) (by omega)
    rw [h.1 ha]
    clear h hg
    go_enter Tryd.func10, Tryd.ntmps10
    go_wp2_with fail
    refine (HC.out _).mono ?_
    rintro e w1 ⟨rfl, rfl⟩
    go_wp2_with fail
    go_ret
    exact ⟨rfl, Below.refl _ _⟩
  · obtain ⟨g, e1, _, e3, e4, e5⟩ := h.2 (by omega)
    rw [codeV_ne (hp (by omega))] at e5
    have HI := Lib.hid (sis_any g at' x w hg e3 e4 e5)
    rw [e1]
    clear h hg e1 e4 e5
    go_enter Tryd.func10, Tryd.ntmps10
    go_wp2_with fail
    refine HI.out.mono ?_
    rintro e w1 ⟨rfl, hb1⟩
    go_wp2_with fail
    go_ret
    exact ⟨rfl, hb1⟩
end Go.Proofs.YtceknhhdgmappaaDoor
