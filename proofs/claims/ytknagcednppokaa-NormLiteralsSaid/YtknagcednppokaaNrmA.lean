/- norm.bare, norm.canonical, norm.made. -/
import Derived.Test.YtknagcednppokaaFrmNB
import Derived.Test.YtknagcednppokaaFrmD
import Derived.Test.YtknagcednppokaaLinE
namespace Go.Proofs.Ytknagcednppokaa
open Go.RowKit

theorem len0 (a : Nat) : ((a : Int) == 0) = decide (a = 0) := by rw [Bool.eq_iff_iff]; simp
theorem len1 (a : Nat) : ((a : Int) == 1) = decide (a = 1) := by rw [Bool.eq_iff_iff]; simp; omega
def bareF (f : FT) : Bool := decide (f.c = 0) && decide (f.t.length = 0)
def canF (c : Int) (l : List (Int × Int)) : Bool := snd c l && (decide (gAt l l.length = 1) && decide (0 < (l.getD 0 (0, 0)).2))
/-- Is a formula made of literals, and, or? -/
def madeF : Nat → FT → Bool
  | 0, _ => false
  | n + 1, f =>
    if f.kind = 0 ∨ f.kind = 1 then bareF f && decide (f.ks.length = 0)
    else if f.kind = 2 then canF f.c f.t && decide (f.ks.length = 0)
    else if f.kind = 4 then bareF f && (decide (f.ks.length = 1) && (decide ((f.ks.getD 0 default).kind = 2) && madeF n (f.ks.getD 0 default)))
    else if f.kind = 5 ∨ f.kind = 6 then decide (∀ i, i < f.ks.length → madeF n (f.ks.getD i default) = true) && bareF f
    else false
theorem madeF_0 {n : Nat} {f : FT} (h : f.kind = 0 ∨ f.kind = 1) : madeF (n + 1) f = (bareF f && decide (f.ks.length = 0)) := by
  show (if f.kind = 0 ∨ f.kind = 1 then _ else _) = _
  rw [if_pos h]
theorem madeF_2 {n : Nat} {f : FT} (h : f.kind = 2) : madeF (n + 1) f = (canF f.c f.t && decide (f.ks.length = 0)) := by
  show (if f.kind = 0 ∨ f.kind = 1 then _ else if f.kind = 2 then _ else _) = _
  rw [if_neg (by omega), if_pos h]
theorem madeF_4 {n : Nat} {f : FT} (h : f.kind = 4) : madeF (n + 1) f = (bareF f && (decide (f.ks.length = 1) && (decide ((f.ks.getD 0 default).kind = 2) && madeF n (f.ks.getD 0 default)))) := by
  show (if f.kind = 0 ∨ f.kind = 1 then _ else if f.kind = 2 then _ else if f.kind = 4 then _ else _) = _
  rw [if_neg (by omega), if_neg (by omega), if_pos h]
theorem madeF_5 {n : Nat} {f : FT} (h : f.kind = 5 ∨ f.kind = 6) : madeF (n + 1) f = (decide (∀ i, i < f.ks.length → madeF n (f.ks.getD i default) = true) && bareF f) := by
  show (if f.kind = 0 ∨ f.kind = 1 then _ else if f.kind = 2 then _ else if f.kind = 4 then _ else if f.kind = 5 ∨ f.kind = 6 then _ else _) = _
  rw [if_neg (by omega), if_neg (by omega), if_neg (by omega), if_pos h]
theorem madeF_x {n : Nat} {f : FT} (h : ¬ (f.kind = 0 ∨ f.kind = 1) ∧ f.kind ≠ 2 ∧ f.kind ≠ 4 ∧ ¬ (f.kind = 5 ∨ f.kind = 6)) : madeF (n + 1) f = false := by
  show (if f.kind = 0 ∨ f.kind = 1 then _ else if f.kind = 2 then _ else if f.kind = 4 then _ else if f.kind = 5 ∨ f.kind = 6 then _ else _) = _
  rw [if_neg h.1, if_neg h.2.1, if_neg h.2.2.1, if_neg h.2.2.2]

theorem bare_any (n : Nat) (f : FT) (cs : List Value) (w : World) (h : FLies w.heap.size w n f cs) :
    Calls Try.prog 63 #[.agg cs.toArray] w fun e w' => e = .returned (.bool (bareF f)) ∧ Below w.heap.size w w' := by
  cases n with
  | zero => exact h.elim
  | succ n =>
    obtain ⟨ta, tcap, ka, kcap, rfl, _⟩ := h
    have B0 := Lib.hid (box_start w f.kind f.c ta ka f.t.length tcap f.ks.length kcap)
    unfold bareF
    generalize f.kind = fk at B0
    generalize f.c = fc at B0
    generalize f.t.length = ft at B0
    generalize f.ks.length = len at B0
    by_cases hc : fc = 0
    · subst hc
      go_enter Try.func63, Try.ntmps63
      go_wp2
      go_ret
      exact ⟨ret_bool (by rw [len0]; simp), B0.out.bel⟩
    · have hc2 : (fc == 0) = false := by simpa using hc
      go_enter Try.func63, Try.ntmps63
      go_wp2
      go_ret
      exact ⟨ret_bool (by simp [hc]), B0.out.bel⟩

set_option maxHeartbeats 1000000 in
theorem canonical_any (c : Int) (a : Option Addr) (n cap : Nat) (l : List (Int × Int)) (w : World) (hn : l.length = n) (hm : n ≤ 9223372036854775807) (hl : Lies w.heap.size w a l) :
    Calls Try.prog 64 #[.agg #[.int .i64 c, .slice a n cap]] w fun e w' => e = .returned (.bool (canF c l)) ∧ Below w.heap.size w w' := by
  have hb0 : Below w.heap.size w (w.alloc (.cells #[.int .i64 c, .slice a n cap] 24)) := (Below.refl _ w).alloc (Nat.le_refl _) _
  have HB := Lib.hid hb0
  cases hs : snd c l with
  | false =>
    have hg := Lib.hid (gcd_no c a n cap l _ hn hm ((hl.below hb0).mono hb0.size) hs)
    have hr : canF c l = false := by unfold canF; rw [hs]; rfl
    rw [hr]
    clear hb0 hs hl hr hn
    go_enter Try.func64, Try.ntmps64
    go_wp2_with fail
    refine hg.out.mono ?_
    rintro e w1 ⟨rfl, hb1⟩
    go_wp2_with fail
    go_ret
    exact ⟨rfl, HB.out.trans (hb1.mono (by simp))⟩
  | true =>
    have hg := Lib.hid (gcd_yes c a n cap l _ hn ((hl.below hb0).mono hb0.size) hs)
    have hr : canF c l = (decide (gAt l n = 1) && decide (0 < (l.getD 0 (0, 0)).2)) := by unfold canF; rw [hs, hn]; rfl
    rw [hr]
    by_cases h1 : gAt l n = 1
    · have h0 : 0 < n := by
        by_cases h0 : n = 0
        · rw [h0] at h1; cases h1
        · omega
      obtain ⟨b, off, rfl, hblt, c1, c2⟩ := (hl.below hb0) 0 (by omega)
      rw [h1] at hg ⊢
      simp only [Nat.zero_mul, Nat.add_zero] at c1 c2
      have HC2 := Lib.hid c2
      generalize (l.getD 0 (0, 0)).2 = K at c2 HC2
      clear c1 c2 hr hs hl hn h1 hb0
      go_enter Try.func64, Try.ntmps64
      go_wp2_with fail
      refine hg.out.mono ?_
      rintro e w1 ⟨rfl, hb1⟩
      have hz1 : w.heap.size < w1.heap.size := by have := hb1.size; simp at this; omega
      have d1 : w1.cell? ⟨b, off + 1, none⟩ = some (.int .i64 K) := (hb1.cell (p := ⟨b, off + 1, none⟩) (by simp; omega)).trans HC2.out
      have e0 : w1.cell? ⟨w.heap.size, 0, none⟩ = some (.int .i64 c) := by rw [hb1.cell (p := ⟨w.heap.size, 0, none⟩) (by simp)]; simp
      have e1 : w1.cell? ⟨w.heap.size, 1, none⟩ = some (.slice (some ⟨b, off, none⟩) n cap) := by rw [hb1.cell (p := ⟨w.heap.size, 1, none⟩) (by simp)]; simp
      have HB1 := Lib.hid (HB.out.trans (hb1.mono (by simp)))
      clear hb1 HC2
      go_wp2_with fail
      go_ret
      exact ⟨rfl, HB1.out⟩
    · have h2 : (gAt l n == 1) = false := by simpa using h1
      rw [decide_eq_false h1, Bool.false_and]
      generalize gAt l n = g at hg h2
      clear hr hs hl hn h1 hb0
      go_enter Try.func64, Try.ntmps64
      go_wp2_with fail
      refine hg.out.mono ?_
      rintro e w1 ⟨rfl, hb1⟩
      go_wp2_with fail
      go_ret
      exact ⟨rfl, HB.out.trans (hb1.mono (by simp))⟩
end Go.Proofs.Ytknagcednppokaa
