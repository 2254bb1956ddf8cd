/- The walk of FormChecks. -/
import Derived.Test.YtinineipfleoiaaFrmG
import Derived.Test.YtinineipfleoiaaFrmH
import Derived.Test.YtinineipfleoiaaFrmU
import Derived.Test.YtinineipfleoiaaLinT
namespace Go.Proofs.Ytinineipfleoiaa
open Go.RowKit

theorem cc_in (n : Nat) (f : FT) : (cc n f = 0 ∧ siz n f ≤ 4096) ∨ (cc n f ≠ 0 ∧ 1 ≤ cc n f ∧ cc n f ≤ 16) := by
  unfold cc ccV
  split
  · right; decide
  · split
    · right; decide
    · split
      · left; exact ⟨rfl, by omega⟩
      · right; decide
theorem code_of (k : Int) (w : World) (h0 : 0 ≤ k) (h1 : k ≤ 16) : Calls Try.prog 14 #[codeV k] w fun e w' => e = .returned (.int .i64 k) ∧ w = w' := by
  by_cases h : k = 0
  · subst h; exact code_nil w
  · unfold codeV; rw [if_neg h]; exact code_k k w (by omega) h1

set_option maxHeartbeats 1000000 in
theorem formChecks_any (hup : UpSaid2) (n : Nat) (f : FT) (cs : List Value) (w : World) (h : FLies w.heap.size w n f cs) :
    Calls Try.prog 3 #[.agg cs.toArray] w fun e w' => e = .returned (.bool true) ∧ Below w.heap.size w w' := by
  have FL := fun W (hb : Below w.heap.size w W) => (h.below hb).mono hb.size
  cases n with
  | zero => exact h.elim
  | succ n =>
    obtain ⟨ta, tcap, ka, kcap, rfl, _⟩ := h
    have hsm := Lib.hid (fun W hb => small_any (n + 1) f _ W (FL W hb))
    have hck := Lib.hid (fun W hb => fcheck_any (n + 1) f _ W (FL W hb))
    have hsz := Lib.hid (fun W hb => fsize_any (n + 1) f _ W (FL W hb))
    have hrc := Lib.hid (fun W hb => rfcheck_any (n + 1) f _ W (FL W hb))
    have hrs := Lib.hid (fun W hb => rsize_any (n + 1) f _ 4096 W (by omega) (by omega) (FL W hb))
    have T0 := Lib.hid (box_start w f.kind f.c ta ka f.t.length tcap f.ks.length kcap)
    have hcc := cc_in (n + 1) f
    clear FL
    generalize cc (n + 1) f = k at hck hsz hrc hcc
    generalize siz (n + 1) f = s at hsz hrs hcc
    generalize f.kind = fk at T0 hsm hck hsz hrc hrs
    generalize f.c = fc at T0 hsm hck hsz hrc hrs
    generalize f.t.length = ft at T0 hsm hck hsz hrc hrs
    generalize f.ks.length = fl at T0 hsm hck hsz hrc hrs
    have hco := Lib.hid (fun W => code_of k W (by omega) (by omega))
    rcases hcc with ⟨rfl, hs⟩ | ⟨hk, hk1, hk2⟩
    · have e1 : szV s 4096 = 4096 - s := by unfold szV; split <;> omega
      rw [e1] at hrs
      simp only [if_true] at hsz
      have hs' : (s : Int) ≤ 4096 := by omega
      have hs0 : (0 : Int) ≤ s := by omega
      clear e1
      generalize (s : Int) = z at hrs hsz hs' hs0
      clear hs
      go_enter Try.func3, Try.ntmps3
      go_wp2_with fail
      refine (hup _).mono ?_
      rintro e w1 ⟨rfl, hb1⟩
      have T1 := Lib.hid (T0.out.below hb1 T0.out.lt)
      clear hb1
      obtain ⟨l1, p0, p1, p2, p3, _⟩ := T1.out
      go_wp2_with fail
      refine (hsm.out _ T1.out.bel).mono ?_
      rintro e w2 ⟨b, rfl, hb2⟩
      have T2 := Lib.hid (T1.out.below hb2 T1.out.lt)
      clear hb2 l1 p0 p1 p2 p3
      obtain ⟨l2, p0, p1, p2, p3, _⟩ := T2.out
      cases b with
      | false =>
        go_wp2_with fail
        go_ret
        exact ⟨rfl, T2.out.bel⟩
      | true =>
        go_wp2_with fail
        refine (hck.out _ T2.out.bel).mono ?_
        rintro e w3 ⟨rfl, hb3⟩
        have T3 := Lib.hid (T2.out.below hb3 T2.out.lt)
        clear hb3 l2 p0 p1 p2 p3
        obtain ⟨l3, p0, p1, p2, p3, _⟩ := T3.out
        go_wp2_with fail
        refine (hrc.out _ T3.out.bel).mono ?_
        rintro e w4 ⟨rfl, hb4⟩
        have T4 := Lib.hid (T3.out.below hb4 T3.out.lt)
        clear hb4 l3 p0 p1 p2 p3
        obtain ⟨l4, p0, p1, p2, p3, _⟩ := T4.out
        go_wp2_with fail
        refine (hrs.out _ T4.out.bel).mono ?_
        rintro e w5 ⟨rfl, hb5⟩
        have T5 := Lib.hid (T4.out.below hb5 T4.out.lt)
        clear hb5 l4 p0 p1 p2 p3
        obtain ⟨l5, p0, p1, p2, p3, _⟩ := T5.out
        go_wp2_with fail
        refine (hco.out _).mono ?_
        rintro e w6 ⟨rfl, rfl⟩
        go_wp2_with fail
        refine (hsz.out _ T5.out.bel).mono ?_
        rintro e w7 ⟨rfl, hb7⟩
        have T7 := Lib.hid (T5.out.below hb7 T5.out.lt)
        clear hb7 l5 p0 p1 p2 p3
        go_wp2_with fail
        go_ret
        exact ⟨by simp; omega, T7.out.bel⟩
    · rw [if_neg hk] at hsz
      clear hrs
      go_enter Try.func3, Try.ntmps3
      go_wp2_with fail
      refine (hup _).mono ?_
      rintro e w1 ⟨rfl, hb1⟩
      have T1 := Lib.hid (T0.out.below hb1 T0.out.lt)
      clear hb1
      obtain ⟨l1, p0, p1, p2, p3, _⟩ := T1.out
      go_wp2_with fail
      refine (hsm.out _ T1.out.bel).mono ?_
      rintro e w2 ⟨b, rfl, hb2⟩
      have T2 := Lib.hid (T1.out.below hb2 T1.out.lt)
      clear hb2 l1 p0 p1 p2 p3
      obtain ⟨l2, p0, p1, p2, p3, _⟩ := T2.out
      cases b with
      | false =>
        go_wp2_with fail
        go_ret
        exact ⟨rfl, T2.out.bel⟩
      | true =>
        go_wp2_with fail
        refine (hck.out _ T2.out.bel).mono ?_
        rintro e w3 ⟨rfl, hb3⟩
        have T3 := Lib.hid (T2.out.below hb3 T2.out.lt)
        clear hb3 l2 p0 p1 p2 p3
        obtain ⟨l3, p0, p1, p2, p3, _⟩ := T3.out
        go_wp2_with fail
        refine (hrc.out _ T3.out.bel).mono ?_
        rintro e w4 ⟨rfl, hb4⟩
        have T4 := Lib.hid (T3.out.below hb4 T3.out.lt)
        clear hb4 l3 p0 p1 p2 p3
        obtain ⟨l4, p0, p1, p2, p3, _⟩ := T4.out
        go_wp2_with fail
        refine (hco.out _).mono ?_
        rintro e w6 ⟨rfl, rfl⟩
        go_wp2_with fail
        refine (hsz.out _ T4.out.bel).mono ?_
        rintro e w7 ⟨rfl, hb7⟩
        have T7 := Lib.hid (T4.out.below hb7 T4.out.lt)
        clear hb7 l4 p0 p1 p2 p3
        go_wp2_with fail
        go_ret
        exact ⟨rfl, T7.out.bel⟩
end Go.Proofs.Ytinineipfleoiaa
