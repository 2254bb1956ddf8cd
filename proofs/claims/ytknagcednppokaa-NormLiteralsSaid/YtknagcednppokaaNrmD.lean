/- norm.Is; the document's Is. -/
import Derived.Test.YtknagcednppokaaNrmB
import Derived.Test.YtknagcednppokaaNrmC
import Derived.Test.YtknagcednppokaaFrmG
namespace Go.Proofs.Ytknagcednppokaa
open Go.RowKit

/-- Is a formula normalized? -/
def isF (n : Nat) (f : FT) : Bool := decide (dep n f ≤ 128) && (decide (siz n f ≤ 20480) && madeF n f)

set_option maxHeartbeats 1000000 in
theorem nis_any (n : Nat) (f : FT) (cs : List Value) (w : World) (h : FLies w.heap.size w n f cs) :
    Calls Try.prog 17 #[.agg cs.toArray] w fun e w' => e = .returned (.bool (isF n f)) ∧ Below w.heap.size w w' := by
  have FL := fun W (hb : Below w.heap.size w W) => (h.below hb).mono hb.size
  cases n with
  | zero => exact h.elim
  | succ n =>
    obtain ⟨ta, tcap, ka, kcap, rfl, _⟩ := h
    have hd := Lib.hid (fun W hb => ndeeper_any (n + 1) f _ 128 W (by omega) (by omega) (FL W hb))
    have hc := Lib.hid (fun W hb => ncount_any (n + 1) f _ 20480 W (by omega) (by omega) (FL W hb))
    have hm := Lib.hid (fun W hb => made_any (n + 1) f _ W (FL W hb))
    have T0 := Lib.hid (box_start w f.kind f.c ta ka f.t.length tcap f.ks.length kcap)
    unfold isF
    clear FL
    generalize dep (n + 1) f = d at hd
    generalize siz (n + 1) f = s at hc
    generalize madeF (n + 1) f = b at hm
    generalize f.kind = fk at T0 hd hc hm
    generalize f.c = fc at T0 hd hc hm
    generalize f.t.length = ft at T0 hd hc hm
    generalize f.ks.length = fl at T0 hd hc hm
    by_cases h1 : d ≤ 128
    · have e1 : decide ((128 : Int) < (d : Int)) = false := by simp; omega
      rw [e1] at hd
      rw [decide_eq_true h1, Bool.true_and]
      by_cases h2 : s ≤ 20480
      · have e2 : cnt s 20480 = s := by unfold cnt; rw [if_pos (by omega)]
        rw [e2] at hc
        rw [decide_eq_true h2, Bool.true_and]
        have h2' : (s : Int) ≤ 20480 := by omega
        go_enter Try.func17, Try.ntmps17
        go_wp2_with fail
        refine (hd.out _ T0.out.bel).mono ?_
        rintro e w1 ⟨rfl, hb1⟩
        have T1 := Lib.hid (T0.out.below hb1 T0.out.lt)
        clear hb1
        obtain ⟨l1, p0, p1, p2, p3, _⟩ := T1.out
        go_wp2_with fail
        refine (hc.out _ T1.out.bel).mono ?_
        rintro e w2 ⟨rfl, hb2⟩
        have T2 := Lib.hid (T1.out.below hb2 T1.out.lt)
        clear hb2 l1 p0 p1 p2 p3
        obtain ⟨l2, p0, p1, p2, p3, _⟩ := T2.out
        go_wp2_with fail
        refine (hm.out _ T2.out.bel).mono ?_
        rintro e w3 ⟨rfl, hb3⟩
        have T3 := Lib.hid (T2.out.below hb3 T2.out.lt)
        clear hb3 l2 p0 p1 p2 p3
        cases b
        all_goals
          go_wp2_with fail
          go_ret
          exact ⟨rfl, T3.out.bel⟩
      · have e2 : cnt s 20480 = 20481 := by unfold cnt; rw [if_neg (by omega)]; rfl
        rw [e2] at hc
        rw [decide_eq_false h2, Bool.false_and]
        clear hm
        go_enter Try.func17, Try.ntmps17
        go_wp2_with fail
        refine (hd.out _ T0.out.bel).mono ?_
        rintro e w1 ⟨rfl, hb1⟩
        have T1 := Lib.hid (T0.out.below hb1 T0.out.lt)
        clear hb1
        obtain ⟨l1, p0, p1, p2, p3, _⟩ := T1.out
        go_wp2_with fail
        refine (hc.out _ T1.out.bel).mono ?_
        rintro e w2 ⟨rfl, hb2⟩
        have T2 := Lib.hid (T1.out.below hb2 T1.out.lt)
        clear hb2 l1 p0 p1 p2 p3
        go_wp2_with fail
        go_ret
        exact ⟨rfl, T2.out.bel⟩
    · have e1 : decide ((128 : Int) < (d : Int)) = true := by simp; omega
      rw [e1] at hd
      rw [decide_eq_false h1, Bool.false_and]
      clear hm hc
      go_enter Try.func17, Try.ntmps17
      go_wp2_with fail
      refine (hd.out _ T0.out.bel).mono ?_
      rintro e w1 ⟨rfl, hb1⟩
      have T1 := Lib.hid (T0.out.below hb1 T0.out.lt)
      clear hb1
      go_wp2_with fail
      go_ret
      exact ⟨rfl, T1.out.bel⟩

set_option maxHeartbeats 1000000 in
theorem rnis_any (n : Nat) (f : FT) (cs : List Value) (w : World) (h : FLies w.heap.size w n f cs) :
    Calls Try.prog 18 #[.agg cs.toArray] w fun e w' => e = .returned (.bool (isF n f)) ∧ Below w.heap.size w w' := by
  have FL := fun W (hb : Below w.heap.size w W) => (h.below hb).mono hb.size
  cases n with
  | zero => exact h.elim
  | succ n =>
    obtain ⟨ta, tcap, ka, kcap, rfl, _⟩ := h
    have hd := Lib.hid (fun W hb => rdepth_any (n + 1) f _ 128 W (by omega) (by omega) (FL W hb))
    have hc := Lib.hid (fun W hb => rsize_any (n + 1) f _ 20480 W (by omega) (by omega) (FL W hb))
    have hm := Lib.hid (fun W hb => only_any (n + 1) f _ W (FL W hb))
    have T0 := Lib.hid (box_start w f.kind f.c ta ka f.t.length tcap f.ks.length kcap)
    unfold isF
    clear FL
    generalize dep (n + 1) f = d at hd
    generalize siz (n + 1) f = s at hc
    generalize madeF (n + 1) f = b at hm
    generalize f.kind = fk at T0 hd hc hm
    generalize f.c = fc at T0 hd hc hm
    generalize f.t.length = ft at T0 hd hc hm
    generalize f.ks.length = fl at T0 hd hc hm
    by_cases h1 : d ≤ 128
    · have e1 : cnt d 128 = d := by unfold cnt; rw [if_pos (by omega)]
      rw [e1] at hd
      rw [decide_eq_true h1, Bool.true_and]
      have h1' : (d : Int) ≤ 128 := by omega
      by_cases h2 : s ≤ 20480
      · have e2 : szV s 20480 = 20480 - s := by unfold szV; rw [if_pos (by omega)]
        rw [e2] at hc
        rw [decide_eq_true h2, Bool.true_and]
        have h2' : (0 : Int) ≤ 20480 - s := by omega
        generalize (20480 : Int) - s = z at hc h2'
        go_enter Try.func18, Try.ntmps18
        go_wp2_with fail
        refine (hd.out _ T0.out.bel).mono ?_
        rintro e w1 ⟨rfl, hb1⟩
        have T1 := Lib.hid (T0.out.below hb1 T0.out.lt)
        clear hb1
        obtain ⟨l1, p0, p1, p2, p3, _⟩ := T1.out
        go_wp2_with fail
        refine (hc.out _ T1.out.bel).mono ?_
        rintro e w2 ⟨rfl, hb2⟩
        have T2 := Lib.hid (T1.out.below hb2 T1.out.lt)
        clear hb2 l1 p0 p1 p2 p3
        obtain ⟨l2, p0, p1, p2, p3, _⟩ := T2.out
        go_wp2_with fail
        refine (hm.out _ T2.out.bel).mono ?_
        rintro e w3 ⟨rfl, hb3⟩
        have T3 := Lib.hid (T2.out.below hb3 T2.out.lt)
        clear hb3 l2 p0 p1 p2 p3
        cases b
        all_goals
          go_wp2_with fail
          go_ret
          exact ⟨rfl, T3.out.bel⟩
      · have e2 : szV s 20480 = -1 := by unfold szV; rw [if_neg (by omega)]
        rw [e2] at hc
        rw [decide_eq_false h2, Bool.false_and]
        clear hm
        go_enter Try.func18, Try.ntmps18
        go_wp2_with fail
        refine (hd.out _ T0.out.bel).mono ?_
        rintro e w1 ⟨rfl, hb1⟩
        have T1 := Lib.hid (T0.out.below hb1 T0.out.lt)
        clear hb1
        obtain ⟨l1, p0, p1, p2, p3, _⟩ := T1.out
        go_wp2_with fail
        refine (hc.out _ T1.out.bel).mono ?_
        rintro e w2 ⟨rfl, hb2⟩
        have T2 := Lib.hid (T1.out.below hb2 T1.out.lt)
        clear hb2 l1 p0 p1 p2 p3
        go_wp2_with fail
        go_ret
        exact ⟨rfl, T2.out.bel⟩
    · have e1 : cnt d 128 = 129 := by unfold cnt; rw [if_neg (by omega)]; rfl
      rw [e1] at hd
      rw [decide_eq_false h1, Bool.false_and]
      clear hm hc
      go_enter Try.func18, Try.ntmps18
      go_wp2_with fail
      refine (hd.out _ T0.out.bel).mono ?_
      rintro e w1 ⟨rfl, hb1⟩
      have T1 := Lib.hid (T0.out.below hb1 T0.out.lt)
      clear hb1
      go_wp2_with fail
      go_ret
      exact ⟨rfl, T1.out.bel⟩

theorem nsmall_any (n : Nat) (f : FT) (cs : List Value) (w : World) (h : FLies w.heap.size w n f cs) :
    Calls Try.prog 14 #[.agg cs.toArray] w fun e w' => ∃ b : Bool, e = .returned (.bool b) ∧ Below w.heap.size w w' := by
  have FL := fun W (hb : Below w.heap.size w W) => (h.below hb).mono hb.size
  cases n with
  | zero => exact h.elim
  | succ n =>
    obtain ⟨ta, tcap, ka, kcap, rfl, _⟩ := h
    have T0 := Lib.hid (box_start w f.kind f.c ta ka f.t.length tcap f.ks.length kcap)
    have hl := Lib.hid (fun W hb => light_any (n + 1) f _ 30000 200 W (by omega) (by omega) (by omega) (by omega) (FL W hb))
    clear FL
    generalize f.kind = fk at T0 hl
    generalize f.c = fc at T0 hl
    generalize f.t.length = ft at T0 hl
    generalize f.ks.length = fl at T0 hl
    go_enter Try.func14, Try.ntmps14
    go_wp2_with fail
    refine (hl.out _ T0.out.bel).mono ?_
    rintro e w1 ⟨v, rfl, hv1, hv2, hb1⟩
    have T1 := Lib.hid (T0.out.below hb1 T0.out.lt)
    clear hb1
    go_wp2_with fail
    go_ret
    exact ⟨_, rfl, T1.out.bel⟩
end Go.Proofs.Ytknagcednppokaa
