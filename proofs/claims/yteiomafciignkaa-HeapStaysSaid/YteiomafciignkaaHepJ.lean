/- Two shares of one cell are left by the sort as they are. -/
import Derived.Test.YteiomafciignkaaHepD
import Derived.BigQuiet
import Derived.Lib.QuietBelow
set_option linter.unusedVariables false
set_option linter.unusedSimpArgs false
namespace Go.Proofs.Yteiomafciignkaa
set_option maxRecDepth 100000
open Go.RowKit

theorem jcmp_any (c d : HC) (w : World) :
    Calls Try.prog 30 #[.agg #[.int .i64 c.a, .string c.f, .int .i64 c.v], .agg #[.int .i64 d.a, .string d.f, .int .i64 d.v]] w fun e w' => e = .returned (.int .i64 (ordK (hkey c) (hkey d))) ∧ Below w.heap.size w w' := by
  obtain ⟨x, y, z⟩ := c
  obtain ⟨x2, y2, z2⟩ := d
  have HO := Lib.hid (fun W => order_any x y x2 y2 W)
  have HB : Hid (Below w.heap.size w ((w.alloc (.cells #[.int .i64 x, .string y, .int .i64 z] 44)).alloc (.cells #[.int .i64 x2, .string y2, .int .i64 z2] 44))) := ((Below.refl _ w).alloc (Nat.le_refl _) _).alloc (by simp) _
  go_enter Try.func30, Try.ntmps30
  go_wp2_with fail
  refine (HO.out _).mono ?_
  rintro e w1 ⟨rfl, rfl⟩
  go_wp2_with fail
  go_ret
  exact ⟨rfl, HB.out⟩
set_option maxHeartbeats 2000000 in
theorem isort2_any (g off cap : Nat) (x y : HC) (w : World) (hl : HLies w.heap.size w (some ⟨g, off, none⟩) [x, y]) (hk : ¬ ordK (hkey y) (hkey x) < 0) :
    Calls Try.prog 41 #[.slice (some ⟨g, off, none⟩) 2 cap, .int .i64 0, .int .i64 2, .func (.func 30) #[] #[]] w fun e w' => e = .returned (.tuple #[]) ∧ Below w.heap.size w w' := by
  obtain ⟨b3, off3, e3, hb3, c1, c2, c3⟩ := hl 0 (by simp)
  obtain ⟨b4, off4, e4, hb4, d1, d2, d3⟩ := hl 1 (by simp)
  obtain ⟨rfl, rfl⟩ : g = b3 ∧ off = off3 := by injection e3 with e; injection e with e1 e2 e3; exact ⟨e1, e2⟩
  obtain ⟨rfl, rfl⟩ : g = b4 ∧ off = off4 := by injection e4 with e; injection e with e1 e2 e3; exact ⟨e1, e2⟩
  have HJ0 := jcmp_any y x
  simp only [List.getD_cons_zero, List.getD_cons_succ, Nat.zero_mul, Nat.add_zero, Nat.one_mul] at c1 c2 c3 d1 d2 d3
  have HJ : Hid (∀ W, Calls Try.prog 30 #[.agg #[.int .i64 y.a, .string y.f, .int .i64 y.v], .agg #[.int .i64 x.a, .string x.f, .int .i64 x.v]] W fun e w' => e = .returned (.int .i64 (ordK (hkey y) (hkey x))) ∧ Below W.heap.size W w') := HJ0
  clear HJ0
  generalize ordK (hkey y) (hkey x) = o at HJ hk
  obtain ⟨xa, xf, xv⟩ := x
  obtain ⟨ya, yf, yv⟩ := y
  simp only at c1 c2 c3 d1 d2 d3
  have cJ := fun d os => Calls.regrown_of (HJ.out (Go.Sort.grow (redrawn w d) os))
  have r1 := fun d os => cell_regrown c1 d os
  have r2 := fun d os => cell_regrown c2 d os
  have r3 := fun d os => cell_regrown c3 d os
  have r4 := fun d os => cell_regrown d1 d os
  have r5 := fun d os => cell_regrown d2 d os
  have r6 := fun d os => cell_regrown d3 d os
  clear hl e3 e4 hb4
  go_enter Try.func41, Try.ntmps41
  go_wp2_with fail
  refine wp_loop_rounds 2 ?_
  rw [rounds_succ]
  go_wp2_with fail
  refine wp_loop_rounds 1 ?_
  rw [rounds_succ]
  go_wp2_with fail
  refine wp_region_quiet_below (by kernel_rfl) (by kernel_rfl) ?_
  repeat (go_big_quiet_step (with_reducible exact cJ _ _))
  refine wpQuiet_nil ?_
  intro _ hw'
  obtain ⟨⟨dq, osq⟩, hw''⟩ := hw'
  subst hw''
  go_wp2_with fail
  rw [rounds_succ]
  go_wp2_with fail
  go_end0
  exact ⟨rfl, below_regrown w dq osq⟩
theorem stable2_any (g off cap : Nat) (x y : HC) (w : World) (hl : HLies w.heap.size w (some ⟨g, off, none⟩) [x, y]) (hk : ¬ ordK (hkey y) (hkey x) < 0) :
    Calls Try.prog 38 #[.slice (some ⟨g, off, none⟩) 2 cap, .int .i64 2, .func (.func 30) #[] #[]] w fun e w' => e = .returned (.tuple #[]) ∧ Below w.heap.size w w' := by
  have HI := Lib.hid (isort2_any g off cap x y w hl hk)
  clear hl hk
  go_enter Try.func38, Try.ntmps38
  go_wp2_with fail
  refine wp_loop_rounds 1 ?_
  rw [rounds_succ]
  go_wp2_with fail
  refine HI.out.mono ?_
  rintro e w1 ⟨rfl, hb1⟩
  go_wp2_with fail
  refine wp_loop_rounds 1 ?_
  rw [rounds_succ]
  go_wp2_with fail
  go_end0
  exact ⟨rfl, hb1⟩
theorem sort2_any (g off cap : Nat) (x y : HC) (w : World) (hl : HLies w.heap.size w (some ⟨g, off, none⟩) [x, y]) (hk : ¬ ordK (hkey y) (hkey x) < 0) :
    Calls Try.prog 29 #[.slice (some ⟨g, off, none⟩) 2 cap, .func (.func 30) #[] #[]] w fun e w' => e = .returned (.tuple #[]) ∧ Below w.heap.size w w' := by
  have HI := Lib.hid (stable2_any g off cap x y w hl hk)
  clear hl hk
  go_enter Try.func29, Try.ntmps29
  go_wp2_with fail
  refine HI.out.mono ?_
  rintro e w1 ⟨rfl, hb1⟩
  go_wp2_with fail
  go_end0
  exact ⟨rfl, hb1⟩
end Go.Proofs.Yteiomafciignkaa
