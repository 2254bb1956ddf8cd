/- The walk of LinChecks. -/
import Derived.Test.YtnefolkhoeocjaaLinU
namespace Go.Proofs.Ytnefolkhoeocjaa
open Go.RowKit

set_option maxHeartbeats 1000000 in
theorem linChecks_any (hup : UpSaid) (c : Int) (a : Option Addr) (n cap : Nat) (l : List (Int × Int)) (w : World) (hn : l.length = n) (hm : n ≤ 9223372036854775807) (hl : Lies w.heap.size w a l) :
    Calls Try.prog 3 #[.agg #[.int .i64 c, .slice a n cap]] w fun e w' => e = .returned (.bool true) ∧ Below w.heap.size w w' := by
  have hrc := fun W (hb : Below w.heap.size w W) => rcheck_any c a n cap l W hn hm ((hl.below hb).mono hb.size)
  by_cases hs : snd c l = true
  · have hck := fun W (hb : Below w.heap.size w W) => check_yes c a n cap l W hn ((hl.below hb).mono hb.size) hs
    have hgc := fun W (hb : Below w.heap.size w W) => gcd_yes c a n cap l W hn ((hl.below hb).mono hb.size) hs
    have h64 : n ≤ 64 := by have := (snd_iff.1 hs).2.1; omega
    have hrg := fun W (hb : Below w.heap.size w W) => rgcd_any c a n cap l W hn h64 ((hl.below hb).mono hb.size) (fun j hj => by have := okAt_in ((snd_iff.1 hs).2.2 j (by omega)); omega)
    rw [hs] at hrc
    generalize gAt l n = g at hgc hrg
    have HB0 : Hid (Below w.heap.size w (w.alloc (.cells #[.int .i64 c, .slice a n cap] 24))) := (Below.refl _ w).alloc (Nat.le_refl _) _
    have HC := Lib.hid hck
    have HR := Lib.hid hrc
    have HG := Lib.hid hgc
    have HRG := Lib.hid hrg
    clear hn hl hs hck hrc hgc hrg
    go_enter Try.func3, Try.ntmps3
    go_wp2_with fail
    refine (hup _).mono ?_
    rintro e w1 ⟨rfl, hb1⟩
    obtain ⟨hc1, hf1⟩ := bcell hb1
    have hz1 : w.heap.size < w1.heap.size := by have := hb1.size; simp at this; omega
    have B1 := Lib.hid (HB0.out.trans (hb1.mono (by simp)))
    go_wp2_with fail
    refine (HC.out _ B1.out).mono ?_
    rintro e w2 ⟨rfl, hb2⟩
    obtain ⟨hc2, hf2⟩ := bcell hb2
    have hz2 : w.heap.size < w2.heap.size := by have := hb2.size; omega
    have B2 := Lib.hid (B1.out.trans (hb2.mono (by omega)))
    go_wp2_with fail
    refine (HR.out _ B2.out).mono ?_
    rintro e w3 ⟨rfl, hb3⟩
    obtain ⟨hc3, hf3⟩ := bcell hb3
    have hz3 : w.heap.size < w3.heap.size := by have := hb3.size; omega
    have B3 := Lib.hid (B2.out.trans (hb3.mono (by omega)))
    have hcell : w3.cell? ⟨w.heap.size, 0, none⟩ = some (.int .i64 c) := by
      rw [hc3 _ _ hz2, hc2 _ _ hz1, hc1 _ _ (by simp)]; simp
    have hcell' : w3.cell? ⟨w.heap.size, 1, none⟩ = some (.slice a n cap) := by
      rw [hc3 _ _ hz2, hc2 _ _ hz1, hc1 _ _ (by simp)]; simp
    have cG := fun d os => Calls.regrown_of ((HG.out _ (regrown_trans B3.out (by omega) d os)))
    have cR := fun d os => Calls.regrown_of ((HRG.out _ (regrown_trans B3.out (by omega) d os)))
    have hread0 := fun d os => cell_regrown hcell d os
    have hread1 := fun d os => cell_regrown hcell' d os
    clear hc1 hf1 hc2 hf2 hc3 hf3
    go_wp2_with fail
    refine wp_region_quiet_below (by kernel_rfl) (by kernel_rfl) ?_
    repeat (go_big_quiet_step (first | exact cG _ _ | exact cR _ _))
    refine wpQuiet_nil ?_
    intro _ hw'
    obtain ⟨⟨dq, osq⟩, hw''⟩ := hw'
    subst hw''
    go_wp2
    go_ret
    exact ⟨rfl, regrown_trans B3.out (by omega) dq osq⟩
  · have hs' : snd c l = false := by simpa using hs
    have hck := fun W (hb : Below w.heap.size w W) => check_no c a n cap l W hn hm ((hl.below hb).mono hb.size) hs'
    have hgc := fun W (hb : Below w.heap.size w W) => gcd_no c a n cap l W hn hm ((hl.below hb).mono hb.size) hs'
    rw [hs'] at hrc
    have HB0 : Hid (Below w.heap.size w (w.alloc (.cells #[.int .i64 c, .slice a n cap] 24))) := (Below.refl _ w).alloc (Nat.le_refl _) _
    have HC := Lib.hid hck
    have HR := Lib.hid hrc
    have HG := Lib.hid hgc
    have heq := fun W => Try.eqCode 5 5 W
    clear hn hl hs hs' hck hrc hgc
    go_enter Try.func3, Try.ntmps3
    go_wp2_with fail
    refine (hup _).mono ?_
    rintro e w1 ⟨rfl, hb1⟩
    obtain ⟨hc1, hf1⟩ := bcell hb1
    have hz1 : w.heap.size < w1.heap.size := by have := hb1.size; simp at this; omega
    have B1 := Lib.hid (HB0.out.trans (hb1.mono (by simp)))
    go_wp2_with fail
    refine (HC.out _ B1.out).mono ?_
    rintro e w2 ⟨rfl, hb2⟩
    obtain ⟨hc2, hf2⟩ := bcell hb2
    have hz2 : w.heap.size < w2.heap.size := by have := hb2.size; omega
    have B2 := Lib.hid (B1.out.trans (hb2.mono (by omega)))
    go_wp2_with fail
    refine (HR.out _ B2.out).mono ?_
    rintro e w3 ⟨rfl, hb3⟩
    obtain ⟨hc3, hf3⟩ := bcell hb3
    have hz3 : w.heap.size < w3.heap.size := by have := hb3.size; omega
    have B3 := Lib.hid (B2.out.trans (hb3.mono (by omega)))
    go_wp2_with fail
    refine (HG.out _ B3.out).mono ?_
    rintro e w4 ⟨rfl, hb4⟩
    have B4 := Lib.hid (B3.out.trans (hb4.mono (by omega)))
    go_wp2_with fail
    go_ret
    exact ⟨rfl, B4.out⟩
end Go.Proofs.Ytnefolkhoeocjaa
