/- formula.Check, formula.Size. -/
import Derived.Test.YtknagcednppokaaFrmC
namespace Go.Proofs.Ytknagcednppokaa
open Go.RowKit

/-- What is amiss with a formula: an error's number. -/
def ccV (d s : Nat) (b : Bool) : Int := if 64 < d then 4 else if 4096 < s then 2 else if b then 0 else 5
def cc (n : Nat) (f : FT) : Int := ccV (dep n f) (siz n f) (sndF n f)
/-- An error of a number. -/
def codeV (k : Int) : Value := if k = 0 then .nilIface else .iface 53 (.int .i64 k)

/-- A formula's own box. -/
structure Box (w W : World) (N : Nat) (k c : Int) (ta : Option Addr) (tn tcap : Nat) (ka : Option Addr) (kn kcap : Nat) : Prop where
  lt : N < W.heap.size
  c0 : W.cell? ⟨N, 0, none⟩ = some (.int .i64 k)
  c1 : W.cell? ⟨N, 1, none⟩ = some (.int .i64 c)
  c2 : W.cell? ⟨N, 2, none⟩ = some (.slice ta tn tcap)
  c3 : W.cell? ⟨N, 3, none⟩ = some (.slice ka kn kcap)
  bel : Below N w W
theorem Box.below {w W W' : World} {N B : Nat} {k c : Int} {ta ka : Option Addr} {tn tcap kn kcap : Nat} (h : Box w W N k c ta tn tcap ka kn kcap) (hb : Below B W W') (hB : N < B) : Box w W' N k c ta tn tcap ka kn kcap :=
  ⟨Nat.lt_of_lt_of_le h.lt hb.size, (hb.cell (p := ⟨N, 0, none⟩) hB).trans h.c0, (hb.cell (p := ⟨N, 1, none⟩) hB).trans h.c1, (hb.cell (p := ⟨N, 2, none⟩) hB).trans h.c2, (hb.cell (p := ⟨N, 3, none⟩) hB).trans h.c3, h.bel.trans (hb.mono (by omega))⟩
theorem box_start (w : World) (k c : Int) (ta ka : Option Addr) (tn tcap kn kcap : Nat) : Box w (w.alloc (.cells #[.int .i64 k, .int .i64 c, .slice ta tn tcap, .slice ka kn kcap] 28)) w.heap.size k c ta tn tcap ka kn kcap :=
  ⟨by simp, by simp, by simp, by simp, by simp, (Below.refl _ w).alloc (Nat.le_refl _) _⟩

set_option maxHeartbeats 800000 in
theorem fcheck_any (n : Nat) (f : FT) (cs : List Value) (w : World) (h : FLies w.heap.size w n f cs) :
    Calls Try.prog 34 #[.agg cs.toArray] w fun e w' => e = .returned (codeV (cc n f)) ∧ Below w.heap.size w w' := by
  have FL := fun W (hb : Below w.heap.size w W) => (h.below hb).mono hb.size
  cases n with
  | zero => exact h.elim
  | succ n =>
    obtain ⟨ta, tcap, ka, kcap, rfl, _⟩ := h
    have hd := Lib.hid (fun W hb => deeper_any (n + 1) f _ 64 W (by omega) (by omega) (FL W hb))
    have hc := Lib.hid (fun W hb => count_any (n + 1) f _ 4096 W (by omega) (by omega) (FL W hb))
    have hs := Lib.hid (fun W hb => sound_any (n + 1) f _ W (FL W hb))
    have T0 := Lib.hid (box_start w f.kind f.c ta ka f.t.length tcap f.ks.length kcap)
    unfold cc
    clear FL
    generalize dep (n + 1) f = d at hd
    generalize siz (n + 1) f = s at hc
    generalize sndF (n + 1) f = b at hs
    generalize f.kind = fk at T0 hd hc hs
    generalize f.c = fc at T0 hd hc hs
    generalize f.t.length = ft at T0 hd hc hs
    generalize f.ks.length = fl at T0 hd hc hs
    by_cases h1 : 64 < d
    · have e1 : decide ((64 : Int) < (d : Int)) = true := by simp; omega
      have er : codeV (ccV d s b) = .iface 53 (.int .i64 4) := by unfold ccV; rw [if_pos h1]; rfl
      rw [er]
      rw [e1] at hd
      clear er e1 h1 hc hs
      go_enter Try.func34, Try.ntmps34
      go_wp2_with fail
      refine (hd.out _ T0.out.bel).mono ?_
      rintro e w1 ⟨rfl, hb1⟩
      have T1 := Lib.hid (T0.out.below hb1 T0.out.lt)
      clear hb1
      go_wp2_with fail
      go_ret
      exact ⟨rfl, T1.out.bel⟩
    · have e1 : decide ((64 : Int) < (d : Int)) = false := by simp; omega
      rw [e1] at hd
      by_cases h2 : 4096 < s
      · have er : codeV (ccV d s b) = .iface 53 (.int .i64 2) := by unfold ccV; rw [if_neg h1, if_pos h2]; rfl
        have e2 : cnt s 4096 = 4097 := by unfold cnt; rw [if_neg (by omega)]; rfl
        rw [er]
        rw [e2] at hc
        clear er e1 e2 h1 h2 hs
        go_enter Try.func34, Try.ntmps34
        go_wp2_with fail
        refine (hd.out _ T0.out.bel).mono ?_
        rintro e w1 ⟨rfl, hb1⟩
        have T1 := Lib.hid (T0.out.below hb1 T0.out.lt)
        clear hb1
        obtain ⟨l1, p0, p1, p2, p3, _⟩ := T1.out
        go_wp2_with fail
        refine (hc.out _ T1.out.bel).mono ?_
        rintro e w2 ⟨rfl, hb2⟩
        have T2 := Lib.hid (T1.out.below hb2 T1.out.lt)
        clear hb2 l1 p0 p1 p2 p3
        go_wp2_with fail
        go_ret
        exact ⟨rfl, T2.out.bel⟩
      · have e2 : cnt s 4096 = s := by unfold cnt; rw [if_pos (by omega)]
        have er : codeV (ccV d s b) = errV b := by unfold ccV; rw [if_neg h1, if_neg h2]; cases b <;> rfl
        have hs4 : (s : Int) ≤ 4096 := by omega
        rw [er]
        rw [e2] at hc
        clear er e1 e2 h1 h2
        go_enter Try.func34, Try.ntmps34
        go_wp2_with fail
        refine (hd.out _ T0.out.bel).mono ?_
        rintro e w1 ⟨rfl, hb1⟩
        have T1 := Lib.hid (T0.out.below hb1 T0.out.lt)
        clear hb1
        obtain ⟨l1, p0, p1, p2, p3, _⟩ := T1.out
        go_wp2_with fail
        refine (hc.out _ T1.out.bel).mono ?_
        rintro e w2 ⟨rfl, hb2⟩
        have T2 := Lib.hid (T1.out.below hb2 T1.out.lt)
        clear hb2 l1 p0 p1 p2 p3
        obtain ⟨l2, p0, p1, p2, p3, _⟩ := T2.out
        go_wp2_with fail
        refine (hs.out _ T2.out.bel).mono ?_
        rintro e w3 ⟨rfl, hb3⟩
        have T3 := Lib.hid (T2.out.below hb3 T2.out.lt)
        clear hb3 l2 p0 p1 p2 p3
        cases b with
        | true =>
          go_wp2_with fail
          go_ret
          exact ⟨rfl, T3.out.bel⟩
        | false =>
          go_wp2_with fail
          go_ret
          exact ⟨rfl, T3.out.bel⟩

theorem Try.neNil (w : World) : (binOp .neq 30 .nilIface .nilIface).run Try.prog w = .ok (.bool false) w := by simp [go_sem]
theorem Try.neCode (k : Int) (w : World) : (binOp .neq 30 (.iface 53 (.int .i64 k)) .nilIface).run Try.prog w = .ok (.bool true) w := by simp [go_sem]

end Go.Proofs.Ytknagcednppokaa
