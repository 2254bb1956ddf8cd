/- The walk of FormValues. -/
import Derived.Test.YtinineipfleoiaaFrmN
import Derived.Test.YtinineipfleoiaaFrmK1
namespace Go.Proofs.Ytinineipfleoiaa
open Go.RowKit

set_option maxHeartbeats 1000000 in
theorem formValues_any (hup : UpSaid2) (n : Nat) (f : FT) (cs : List Value) (a2 : Option Addr) (n2 cap2 : Nat) (zs : List Int) (w : World) (h : FLies w.heap.size w n f cs) (hn2 : zs.length = n2) (hm2 : n2 ≤ 9223372036854775807) (hz : Nums w.heap.size w a2 zs) :
    Calls Try.prog 5 #[.agg cs.toArray, .slice a2 n2 cap2] w fun e w' => e = .returned (.bool true) ∧ Below w.heap.size w w' := by
  have FL := fun W (hb : Below w.heap.size w W) => (h.below hb).mono hb.size
  cases n with
  | zero => exact h.elim
  | succ n =>
    obtain ⟨ta, tcap, ka, kcap, rfl, _⟩ := h
    have hsm := Lib.hid (fun W hb => small_any (n + 1) f _ W (FL W hb))
    have hva := Lib.hid (fun W (hb : Below w.heap.size w W) => fvalue_any (n + 1) f _ a2 n2 cap2 zs W (FL W hb) hn2 ((hz.below hb).mono hb.size))
    have hrv := Lib.hid (fun W (hb : Below w.heap.size w W) => rfvalue_any (n + 1) f _ a2 n2 cap2 zs W (FL W hb) hn2 hm2 ((hz.below hb).mono hb.size))
    have T0 := Lib.hid (box_start w f.kind f.c ta ka f.t.length tcap f.ks.length kcap)
    have hin := fvN_in zs (n + 1) f
    clear FL hz hn2
    generalize fvN zs (n + 1) f = p at hva hrv hin
    obtain ⟨o, k⟩ := p
    have hco := Lib.hid (fun W => code_of k W hin.1 hin.2)
    clear hin
    generalize f.kind = fk at T0 hsm hva hrv
    generalize f.c = fc at T0 hsm hva hrv
    generalize f.t.length = ft at T0 hsm hva hrv
    generalize f.ks.length = fl at T0 hsm hva hrv
    go_enter Try.func5, Try.ntmps5
    go_wp2_with fail
    refine (hup _).mono ?_
    rintro e w1 ⟨rfl, hb1⟩
    have T1 := Lib.hid (T0.out.below hb1 T0.out.lt)
    clear hb1
    obtain ⟨l1, p0, p1, p2, p3, _⟩ := T1.out
    go_wp2_with fail
    refine (hsm.out _ T1.out.bel).mono ?_
    rintro e w2 ⟨b, rfl, hb2⟩
    have T2 := Lib.hid (T1.out.below hb2 T1.out.lt)
    clear hb2 l1 p0 p1 p2 p3
    obtain ⟨l2, p0, p1, p2, p3, _⟩ := T2.out
    cases b with
    | false =>
      go_wp2_with fail
      go_ret
      exact ⟨rfl, T2.out.bel⟩
    | true =>
      go_wp2_with fail
      refine (hva.out _ T2.out.bel).mono ?_
      rintro e w3 ⟨rfl, hb3⟩
      have T3 := Lib.hid (T2.out.below hb3 T2.out.lt)
      clear hb3 l2 p0 p1 p2 p3
      obtain ⟨l3, p0, p1, p2, p3, _⟩ := T3.out
      go_wp2_with fail
      refine (hrv.out _ T3.out.bel).mono ?_
      rintro e w4 ⟨rfl, hb4⟩
      have T4 := Lib.hid (T3.out.below hb4 T3.out.lt)
      clear hb4 l3 p0 p1 p2 p3
      go_wp2_with fail
      refine (hco.out _).mono ?_
      rintro e w6 ⟨rfl, rfl⟩
      cases o
      all_goals
        go_wp2_with fail
        go_ret
        exact ⟨by simp, T4.out.bel⟩
end Go.Proofs.Ytinineipfleoiaa
