/- formula.Value. -/
import Derived.Test.YtinineipfleoiaaFrmId
namespace Go.Proofs.Ytinineipfleoiaa
open Go.RowKit

theorem cc_snd {n : Nat} {f : FT} (h : cc n f = 0) : sndF n f = true := by
  unfold cc ccV at h
  cases hb : sndF n f with
  | true => rfl
  | false => rw [hb] at h; split at h <;> (try split at h) <;> cases h
/-- What formula.Value answers: a number of an error, or the value. -/
def fvN (zs : List Int) (n : Nat) (f : FT) : Bool × Int := if cc n f = 0 then (if (vOf zs n f).2 = true then ((vOf zs n f).1, 0) else (false, 1)) else (false, cc n f)

set_option maxHeartbeats 1600000 in
theorem fvalue_any (n : Nat) (f : FT) (cs : List Value) (a2 : Option Addr) (n2 cap2 : Nat) (zs : List Int) (w : World) (h : FLies w.heap.size w n f cs) (hn2 : zs.length = n2) (hz : Nums w.heap.size w a2 zs) :
    Calls Try.prog 16 #[.agg cs.toArray, .slice a2 n2 cap2] w fun e w' => e = .returned (.tuple #[.bool (fvN zs n f).1, codeV (fvN zs n f).2]) ∧ Below w.heap.size w w' := by
  have FL := fun W (hb : Below w.heap.size w W) => (h.below hb).mono hb.size
  cases n with
  | zero => exact h.elim
  | succ n =>
    obtain ⟨ta, tcap, ka, kcap, rfl, _⟩ := h
    have hs := Lib.hid (fun W hb => fcheck_any (n + 1) f _ W (FL W hb))
    have hv := Lib.hid (fun (hc : cc (n + 1) f = 0) W (hb : Below w.heap.size w W) => value_any (n + 1) f _ a2 n2 cap2 zs W (FL W hb) (cc_snd hc) hn2 ((hz.below hb).mono hb.size))
    have T0 := Lib.hid (box_start w f.kind f.c ta ka f.t.length tcap f.ks.length kcap)
    unfold fvN
    clear FL hz hn2
    generalize vOf zs (n + 1) f = p at hv
    generalize cc (n + 1) f = k at hs hv
    obtain ⟨o, u⟩ := p
    generalize f.kind = fk at T0 hs hv
    generalize f.c = fc at T0 hs hv
    generalize f.t.length = ft at T0 hs hv
    generalize f.ks.length = fl at T0 hs hv
    have n1 := fun W => Try.neNil W
    have n2' := fun W => Try.neCode k W
    by_cases hk : k = 0
    · subst hk
      have hv0 := Lib.hid (hv.out rfl)
      simp only [codeV, if_true] at hs
      clear hv n2'
      cases u with
      | true =>
        go_enter Try.func16, Try.ntmps16
        go_wp2_with fail
        refine (hs.out _ T0.out.bel).mono ?_
        rintro e w1 ⟨rfl, hb1⟩
        have T1 := Lib.hid (T0.out.below hb1 T0.out.lt)
        clear hb1
        obtain ⟨l1, p0, p1, p2, p3, _⟩ := T1.out
        go_wp2_with fail
        refine (hv0.out _ T1.out.bel).mono ?_
        rintro e w2 ⟨rfl, hb2⟩
        have T2 := Lib.hid (T1.out.below hb2 T1.out.lt)
        clear hb2 l1 p0 p1 p2 p3
        go_wp2_with fail
        refine bodyPost_ret (v := .tuple #[.bool o, .nilIface]) ?_ rfl ⟨by simp [codeV], T2.out.bel⟩
        simp [results, Try.results16, go_sem]
      | false =>
        go_enter Try.func16, Try.ntmps16
        go_wp2_with fail
        refine (hs.out _ T0.out.bel).mono ?_
        rintro e w1 ⟨rfl, hb1⟩
        have T1 := Lib.hid (T0.out.below hb1 T0.out.lt)
        clear hb1
        obtain ⟨l1, p0, p1, p2, p3, _⟩ := T1.out
        go_wp2_with fail
        refine (hv0.out _ T1.out.bel).mono ?_
        rintro e w2 ⟨rfl, hb2⟩
        have T2 := Lib.hid (T1.out.below hb2 T1.out.lt)
        clear hb2 l1 p0 p1 p2 p3
        go_wp2_with fail
        refine bodyPost_ret (v := .tuple #[.bool false, .iface 36 (.int .i64 1)]) ?_ rfl ⟨by simp [codeV], T2.out.bel⟩
        simp [results, Try.results16, go_sem]
    · have e3 : codeV k = .iface 36 (.int .i64 k) := by unfold codeV; rw [if_neg hk]
      rw [if_neg hk]
      show Calls _ _ _ _ fun e w' => e = .returned (.tuple #[.bool false, codeV k]) ∧ _
      rw [e3] at hs ⊢
      clear hv e3 n1
      go_enter Try.func16, Try.ntmps16
      go_wp2_with fail
      refine (hs.out _ T0.out.bel).mono ?_
      rintro e w1 ⟨rfl, hb1⟩
      have T1 := Lib.hid (T0.out.below hb1 T0.out.lt)
      clear hb1
      go_wp2_with fail
      refine bodyPost_ret (v := .tuple #[.bool false, .iface 36 (.int .i64 k)]) ?_ rfl ⟨rfl, T1.out.bel⟩
      simp [results, Try.results16, go_sem]
end Go.Proofs.Ytinineipfleoiaa
