/- The document's Value of a formula. -/
import Derived.Test.YtinineipfleoiaaFrmM
import Derived.Test.YtinineipfleoiaaFrmH
import Derived.Test.YtinineipfleoiaaFrmJ
namespace Go.Proofs.Ytinineipfleoiaa
open Go.RowKit

set_option maxHeartbeats 1600000 in
theorem rfvalue_any (n : Nat) (f : FT) (cs : List Value) (a2 : Option Addr) (n2 cap2 : Nat) (zs : List Int) (w : World) (h : FLies w.heap.size w n f cs) (hn2 : zs.length = n2) (hm2 : n2 ≤ 9223372036854775807) (hz : Nums w.heap.size w a2 zs) :
    Calls Try.prog 17 #[.agg cs.toArray, .slice a2 n2 cap2] w fun e w' => e = .returned (.tuple #[.bool (fvN zs n f).1, .int .i64 (fvN zs n f).2]) ∧ Below w.heap.size w w' := by
  have FL := fun W (hb : Below w.heap.size w W) => (h.below hb).mono hb.size
  cases n with
  | zero => exact h.elim
  | succ n =>
    obtain ⟨ta, tcap, ka, kcap, rfl, _⟩ := h
    have hc := Lib.hid (fun W hb => rfcheck_any (n + 1) f _ W (FL W hb))
    have hfa := Lib.hid (fun (hc : cc (n + 1) f = 0) W (hb : Below w.heap.size w W) => far_any (n + 1) f _ a2 n2 cap2 zs W (FL W hb) (cc_snd hc) hn2 hm2 ((hz.below hb).mono hb.size))
    have his := Lib.hid (fun (hc : cc (n + 1) f = 0) (hv : (vOf zs (n + 1) f).2 = true) W (hb : Below w.heap.size w W) => is_any (n + 1) f _ a2 n2 cap2 zs W (FL W hb) (cc_snd hc) hv hn2 hm2 ((hz.below hb).mono hb.size))
    have hfn := Lib.hid (fun (hc : cc (n + 1) f = 0) => far_near zs (n + 1) f (cc_snd hc))
    have T0 := Lib.hid (box_start w f.kind f.c ta ka f.t.length tcap f.ks.length kcap)
    unfold fvN
    clear FL hz hn2
    generalize vOf zs (n + 1) f = p at his hfn
    generalize farF zs (n + 1) f = q at hfa hfn
    generalize cc (n + 1) f = k at hc hfa his hfn
    obtain ⟨o, u⟩ := p
    generalize f.kind = fk at T0 hc hfa his
    generalize f.c = fc at T0 hc hfa his
    generalize f.t.length = ft at T0 hc hfa his
    generalize f.ks.length = fl at T0 hc hfa his
    by_cases hk : k = 0
    · subst hk
      have hf0 := Lib.hid (hfa.out rfl)
      have hq := hfn.out rfl
      have hi0 := Lib.hid (his.out rfl)
      clear hfa hfn his
      rw [if_pos rfl]
      cases u with
      | true =>
        obtain rfl : q = false := hq
        have hi1 := Lib.hid (hi0.out rfl)
        clear hi0
        go_enter Try.func17, Try.ntmps17
        go_wp2_with fail
        refine (hc.out _ T0.out.bel).mono ?_
        rintro e w1 ⟨rfl, hb1⟩
        have T1 := Lib.hid (T0.out.below hb1 T0.out.lt)
        clear hb1
        obtain ⟨l1, p0, p1, p2, p3, _⟩ := T1.out
        go_wp2_with fail
        refine (hf0.out _ T1.out.bel).mono ?_
        rintro e w2 ⟨rfl, hb2⟩
        have T2 := Lib.hid (T1.out.below hb2 T1.out.lt)
        clear hb2 l1 p0 p1 p2 p3
        obtain ⟨l2, p0, p1, p2, p3, _⟩ := T2.out
        go_wp2_with fail
        refine (hi1.out _ T2.out.bel).mono ?_
        rintro e w3 ⟨rfl, hb3⟩
        have T3 := Lib.hid (T2.out.below hb3 T2.out.lt)
        clear hb3 l2 p0 p1 p2 p3
        go_wp2_with fail
        refine bodyPost_ret (v := .tuple #[.bool o, .int .i64 0]) ?_ rfl ⟨rfl, T3.out.bel⟩
        simp [results, Try.results17, go_sem]
      | false =>
        obtain rfl : q = true := hq
        clear hi0
        go_enter Try.func17, Try.ntmps17
        go_wp2_with fail
        refine (hc.out _ T0.out.bel).mono ?_
        rintro e w1 ⟨rfl, hb1⟩
        have T1 := Lib.hid (T0.out.below hb1 T0.out.lt)
        clear hb1
        obtain ⟨l1, p0, p1, p2, p3, _⟩ := T1.out
        go_wp2_with fail
        refine (hf0.out _ T1.out.bel).mono ?_
        rintro e w2 ⟨rfl, hb2⟩
        have T2 := Lib.hid (T1.out.below hb2 T1.out.lt)
        clear hb2 l1 p0 p1 p2 p3
        go_wp2_with fail
        refine bodyPost_ret (v := .tuple #[.bool false, .int .i64 1]) ?_ rfl ⟨rfl, T2.out.bel⟩
        simp [results, Try.results17, go_sem]
    · rw [if_neg hk]
      have hkk : (k == 0) = false := by simpa using hk
      clear hfa his hfn
      go_enter Try.func17, Try.ntmps17
      go_wp2_with fail
      refine (hc.out _ T0.out.bel).mono ?_
      rintro e w1 ⟨rfl, hb1⟩
      have T1 := Lib.hid (T0.out.below hb1 T0.out.lt)
      clear hb1
      go_wp2_with fail
      refine bodyPost_ret (v := .tuple #[.bool false, .int .i64 k]) ?_ rfl ⟨rfl, T1.out.bel⟩
      simp [results, Try.results17, go_sem]

theorem fvN_in (zs : List Int) (n : Nat) (f : FT) : 0 ≤ (fvN zs n f).2 ∧ (fvN zs n f).2 ≤ 16 := by
  unfold fvN
  have : 0 ≤ cc n f ∧ cc n f ≤ 16 := by
    unfold cc ccV
    split
    · decide
    · split
      · decide
      · split <;> decide
  split
  · split <;> simp
  · exact this
end Go.Proofs.Ytinineipfleoiaa
