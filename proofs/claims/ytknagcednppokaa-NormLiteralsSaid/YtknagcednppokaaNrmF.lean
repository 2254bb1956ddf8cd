/- The walk of NormIs. -/
import Derived.Test.YtknagcednppokaaNrmD
import Derived.Test.YtknagcednppokaaLinU
namespace Go.Proofs.Ytknagcednppokaa
open Go.RowKit

/-- The document's examples of layer 3 hold. -/
def UpSaid3 : Prop := ∀ w : World, Calls Try.prog 9 #[] w fun e w' => e = .returned (.bool true) ∧ Below w.heap.size w w'

set_option maxHeartbeats 1000000 in
theorem normIs_any (hup : UpSaid3) (n : Nat) (f : FT) (cs : List Value) (w : World) (h : FLies w.heap.size w n f cs) :
    Calls Try.prog 5 #[.agg cs.toArray] w fun e w' => e = .returned (.bool true) ∧ Below w.heap.size w w' := by
  have FL := fun W (hb : Below w.heap.size w W) => (h.below hb).mono hb.size
  cases n with
  | zero => exact h.elim
  | succ n =>
    obtain ⟨ta, tcap, ka, kcap, rfl, _⟩ := h
    have hsm := Lib.hid (fun W hb => nsmall_any (n + 1) f _ W (FL W hb))
    have his := Lib.hid (fun W hb => nis_any (n + 1) f _ W (FL W hb))
    have hri := Lib.hid (fun W hb => rnis_any (n + 1) f _ W (FL W hb))
    have T0 := Lib.hid (box_start w f.kind f.c ta ka f.t.length tcap f.ks.length kcap)
    clear FL
    generalize isF (n + 1) f = r at his hri
    generalize f.kind = fk at T0 hsm his hri
    generalize f.c = fc at T0 hsm his hri
    generalize f.t.length = ft at T0 hsm his hri
    generalize f.ks.length = fl at T0 hsm his hri
    go_enter Try.func5, Try.ntmps5
    go_wp2_with fail
    refine (hup _).mono ?_
    rintro e w1 ⟨rfl, hb1⟩
    have T1 := Lib.hid (T0.out.below hb1 T0.out.lt)
    clear hb1
    obtain ⟨l1, p0, p1, p2, p3, _⟩ := T1.out
    go_wp2_with fail
    refine (hsm.out _ T1.out.bel).mono ?_
    rintro e w2 ⟨b, rfl, hb2⟩
    have T2 := Lib.hid (T1.out.below hb2 T1.out.lt)
    clear hb2 l1 p0 p1 p2 p3
    obtain ⟨l2, p0, p1, p2, p3, _⟩ := T2.out
    have hrr : (r == r) = true := by simp
    have hz2 : w.heap.size ≤ w2.heap.size := Nat.le_of_lt l2
    have cI := fun d os => Calls.regrown_of (his.out _ (regrown_trans T2.out.bel hz2 d os))
    have cR := fun d os => Calls.regrown_of (hri.out _ (regrown_trans T2.out.bel hz2 d os))
    have q0 := fun d os => cell_regrown p0 d os
    have q1 := fun d os => cell_regrown p1 d os
    have q2 := fun d os => cell_regrown p2 d os
    have q3 := fun d os => cell_regrown p3 d os
    clear p0 p1 p2 p3
    cases b
    all_goals
      go_wp2_with fail
      refine wp_region_quiet_below (by kernel_rfl) (by kernel_rfl) ?_
      repeat (go_big_quiet_step (first | exact cI _ _ | exact cR _ _))
      refine wpQuiet_nil ?_
      intro _ hw'
      obtain ⟨⟨dq, osq⟩, hw''⟩ := hw'
      subst hw''
      go_wp2
      go_ret
      exact ⟨by simp, regrown_trans T2.out.bel hz2 dq osq⟩
end Go.Proofs.Ytknagcednppokaa
