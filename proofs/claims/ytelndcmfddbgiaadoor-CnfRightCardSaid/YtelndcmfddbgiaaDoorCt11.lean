/- The map from texts to places. norm.made, kind by kind. -/
import Derived.Test.YtelndcmfddbgiaaDoorCt07
import Derived.Test.YtelndcmfddbgiaaDoorCt08
import Derived.Test.YtelndcmfddbgiaaDoorCt10
import Derived.Maps.Own
import Derived.Maps.OwnOps
import Derived.Maps.Views
import Derived.StringKeys
set_option linter.unusedVariables false
set_option linter.unusedSimpArgs false
set_option linter.unusedVariables false
set_option linter.unusedSimpArgs false
namespace Go.Proofs.YtelndcmfddbgiaaDoor
set_option maxRecDepth 100000
open Go.RowKit Go.Maps

theorem Tryd.lawStr : Keyed Tryd.prog 9 := string_keyed Tryd.underlying9
theorem Tryd.zeroInt (w : World) : (zeroValue 3).run Tryd.prog w = .ok (.int .i64 0) w := by kernel_rfl
/-- The places of atoms, by their texts. -/
structure Places (am : List (Int × List (Int × Int))) (mp : Nat) (w : World) : Prop where
  ex : ∃ D : DataW Unit, w.ownsMap Tryd.prog 9 (plainElem Tryd.prog 3) mp am.length D ∧ ∀ c t, D.atKey (.string (textL c t)) (.lit (.int .i64 0)) = .lit (.int .i64 (atN am (c, t)))
theorem Places.made (w : World) : Places [] w.heap.size (w.alloc (.map #[] 0)) := ⟨.map [], World.ownsMap_made _ _ _ _, fun c t => rfl⟩
theorem Places.keep {am : List (Int × List (Int × Int))} {mp : Nat} {w w' : World} (h : Places am mp w) (hk : w'.heap[mp]? = w.heap[mp]?) : Places am mp w' := by
  obtain ⟨D, ⟨es, clock, hb, F, hs, hD⟩, h2⟩ := h.ex
  exact ⟨D, ⟨es, clock, hk.trans hb, F, hs, hD⟩, h2⟩
theorem Places.lt {am : List (Int × List (Int × Int))} {mp : Nat} {w : World} (h : Places am mp w) : mp < w.heap.size := by
  obtain ⟨D, h1, _⟩ := h.ex
  exact h1.lt
theorem key_of {c : Int} {t : List (Int × Int)} (hs : (textL c t).length ≤ 4000) : keyOf Tryd.prog 9 (.string ⟨(textL c t).toArray⟩) = some (.string (textL c t)) := by
  have := Go.WideMaps.keyOf_string_mk (P := Tryd.prog) Tryd.underlying9 (s := ⟨(textL c t).toArray⟩) (by show (textL c t).toArray.size ≤ _; rw [List.size_toArray]; unfold maxLen; omega)
  simpa using this
theorem Places.look {am : List (Int × List (Int × Int))} {mp : Nat} {w : World} (h : Places am mp w) {c : Int} {t : List (Int × Int)} (hs : (textL c t).length ≤ 4000) :
    (Instr.lookup 60 (.map (some mp)) (.string ⟨(textL c t).toArray⟩) false).run Tryd.prog w = .ok (.int .i64 (atN am (c, t))) w := by
  obtain ⟨D, h1, h2⟩ := h.ex
  obtain ⟨x, hr, hx, _⟩ := h1.lookup_int Tryd.lawStr Tryd.underlying60 Tryd.underlying3 (Tryd.zeroInt _) (key_of hs)
  rw [h2] at hx
  injection hx with hx
  injection hx with _ hx
  rw [hr, hx]
theorem Places.put {am : List (Int × List (Int × Int))} {mp : Nat} {w : World} (h : Places am mp w) {c : Int} {t : List (Int × Int)} (hs : (textL c t).length ≤ 4000) (hn : am.length ≤ 1000000) (h0 : atN am (c, t) = 0) :
    ∃ w', (Instr.mapUpdate 60 (.map (some mp)) (.string ⟨(textL c t).toArray⟩) (.int .i64 (am.length + 1 : Nat))).run Tryd.prog w = .ok () w' ∧ Places (am ++ [(c, t)]) mp w' ∧ w.grownBy w' (some mp) := by
  obtain ⟨D, h1, h2⟩ := h.ex
  obtain ⟨w', hr, h3, h4⟩ := h1.update Tryd.lawStr Tryd.underlying60 (by unfold maxLen; omega) (key_of hs) (plainElem_int Tryd.underlying3 (a := ((am.length + 1 : Nat) : Int)) (WalkArith.wf_i64 (by omega)))
  refine ⟨w', hr, ⟨_, by rw [List.length_append]; exact h3, fun c' t' => ?_⟩, h4⟩
  rw [atN_snoc]
  by_cases e : (c, t) = (c', t')
  · obtain ⟨rfl, rfl⟩ : c = c' ∧ t = t' := by injection e with e1 e2; exact ⟨e1, e2⟩
    rw [if_pos h0, if_pos rfl]
    exact atKey_put_same h1.isMap (by exact trivial) _ _
  · rw [atKey_put_other (fun h => by
      injection h with h
      obtain ⟨h5, h6⟩ := textL_inj h
      exact e (by rw [h5, h6])) _ _, h2]
    by_cases h5 : atN am (c', t') = 0
    · rw [if_pos h5, if_neg e, h5]
    · rw [if_neg h5]
end Go.Proofs.YtelndcmfddbgiaaDoor

namespace Go.Proofs.YtelndcmfddbgiaaDoor
open Go.RowKit

set_option maxRecDepth 100000 in
set_option maxHeartbeats 1600000 in
theorem made_0 (n : Nat) (f : FT) (cs : List Value) (w : World) (IH : ∀ (f : FT) (cs : List Value) (w : World), FLies w.heap.size w n f cs → Calls Tryd.prog 42 #[.agg cs.toArray] w fun e w' => e = .returned (.bool (madeF n f)) ∧ Below w.heap.size w w')
    (h : FLies w.heap.size w (n + 1) f cs) (hk : f.kind = 0) :
    Calls Tryd.prog 42 #[.agg cs.toArray] w fun e w' => e = .returned (.bool (madeF (n + 1) f)) ∧ Below w.heap.size w w' := by
  have FL := fun W (hb : Below w.heap.size w W) => (h.below hb).mono hb.size
  obtain ⟨ta, tcap, ka, kcap, rfl, hlt, ht4, hk4, hks⟩ := h
  have B0 := Lib.hid (box_start w f.kind f.c ta ka f.t.length tcap f.ks.length kcap)
  have hb := Lib.hid (fun W hb => bare_any (n + 1) f _ W (FL W hb))
  rw [madeF_0 (by omega)]
  rw [hk] at B0 hb
  rw [hk]
  generalize bareF f = b at hb
  generalize f.c = fc at B0 hb
  generalize f.t.length = ft at B0 hb
  generalize f.ks.length = len at B0 hb hk4
  clear IH FL hks hlt ht4 hk
  cases b with
  | false =>
    go_enter Tryd.func42, Tryd.ntmps42
    go_wp2_with fail
    refine (hb.out _ B0.out.bel).mono ?_
    rintro e w1 ⟨rfl, hb1⟩
    have T1 := Lib.hid (B0.out.below hb1 B0.out.lt)
    clear hb1
    go_wp2_with fail
    go_ret
    exact ⟨rfl, T1.out.bel⟩
  | true =>
    go_enter Tryd.func42, Tryd.ntmps42
    go_wp2_with fail
    refine (hb.out _ B0.out.bel).mono ?_
    rintro e w1 ⟨rfl, hb1⟩
    have T1 := Lib.hid (B0.out.below hb1 B0.out.lt)
    clear hb1
    obtain ⟨l1, p0, p1, p2, p3, _⟩ := T1.out
    go_wp2_with fail
    go_ret
    exact ⟨ret_bool (by first | rfl | exact len0 _ | exact len1 _ | (simp; done) | (rw [len0]; simp; done) | (rw [len1]; simp; done)), T1.out.bel⟩

set_option maxRecDepth 100000 in
set_option maxHeartbeats 1600000 in
theorem made_1 (n : Nat) (f : FT) (cs : List Value) (w : World) (IH : ∀ (f : FT) (cs : List Value) (w : World), FLies w.heap.size w n f cs → Calls Tryd.prog 42 #[.agg cs.toArray] w fun e w' => e = .returned (.bool (madeF n f)) ∧ Below w.heap.size w w')
    (h : FLies w.heap.size w (n + 1) f cs) (hk : f.kind = 1) :
    Calls Tryd.prog 42 #[.agg cs.toArray] w fun e w' => e = .returned (.bool (madeF (n + 1) f)) ∧ Below w.heap.size w w' := by
  have FL := fun W (hb : Below w.heap.size w W) => (h.below hb).mono hb.size
  obtain ⟨ta, tcap, ka, kcap, rfl, hlt, ht4, hk4, hks⟩ := h
  have B0 := Lib.hid (box_start w f.kind f.c ta ka f.t.length tcap f.ks.length kcap)
  have hb := Lib.hid (fun W hb => bare_any (n + 1) f _ W (FL W hb))
  rw [madeF_0 (by omega)]
  rw [hk] at B0 hb
  rw [hk]
  generalize bareF f = b at hb
  generalize f.c = fc at B0 hb
  generalize f.t.length = ft at B0 hb
  generalize f.ks.length = len at B0 hb hk4
  clear IH FL hks hlt ht4 hk
  cases b with
  | false =>
    go_enter Tryd.func42, Tryd.ntmps42
    go_wp2_with fail
    refine (hb.out _ B0.out.bel).mono ?_
    rintro e w1 ⟨rfl, hb1⟩
    have T1 := Lib.hid (B0.out.below hb1 B0.out.lt)
    clear hb1
    go_wp2_with fail
    go_ret
    exact ⟨rfl, T1.out.bel⟩
  | true =>
    go_enter Tryd.func42, Tryd.ntmps42
    go_wp2_with fail
    refine (hb.out _ B0.out.bel).mono ?_
    rintro e w1 ⟨rfl, hb1⟩
    have T1 := Lib.hid (B0.out.below hb1 B0.out.lt)
    clear hb1
    obtain ⟨l1, p0, p1, p2, p3, _⟩ := T1.out
    go_wp2_with fail
    go_ret
    exact ⟨ret_bool (by first | rfl | exact len0 _ | exact len1 _ | (simp; done) | (rw [len0]; simp; done) | (rw [len1]; simp; done)), T1.out.bel⟩

set_option maxRecDepth 100000 in
set_option maxHeartbeats 1600000 in
theorem made_2 (n : Nat) (f : FT) (cs : List Value) (w : World) (IH : ∀ (f : FT) (cs : List Value) (w : World), FLies w.heap.size w n f cs → Calls Tryd.prog 42 #[.agg cs.toArray] w fun e w' => e = .returned (.bool (madeF n f)) ∧ Below w.heap.size w w')
    (h : FLies w.heap.size w (n + 1) f cs) (hk : f.kind = 2) :
    Calls Tryd.prog 42 #[.agg cs.toArray] w fun e w' => e = .returned (.bool (madeF (n + 1) f)) ∧ Below w.heap.size w w' := by
  have FL := fun W (hb : Below w.heap.size w W) => (h.below hb).mono hb.size
  obtain ⟨ta, tcap, ka, kcap, rfl, hlt, ht4, hk4, hks⟩ := h
  have B0 := Lib.hid (box_start w f.kind f.c ta ka f.t.length tcap f.ks.length kcap)
  have hb := Lib.hid (fun W (hb : Below w.heap.size w W) => canonical_any f.c ta f.t.length tcap f.t W rfl ht4 ((hlt.below hb).mono hb.size))
  rw [madeF_2 hk]
  rw [hk] at B0 ⊢
  generalize canF f.c f.t = b at hb
  generalize f.c = fc at B0 hb
  generalize f.t.length = ft at B0 hb
  generalize f.ks.length = len at B0 hk4
  clear IH FL hks hlt ht4 hk
  cases b with
  | false =>
    go_enter Tryd.func42, Tryd.ntmps42
    go_wp2_with fail
    refine (hb.out _ B0.out.bel).mono ?_
    rintro e w1 ⟨rfl, hb1⟩
    have T1 := Lib.hid (B0.out.below hb1 B0.out.lt)
    clear hb1
    go_wp2_with fail
    go_ret
    exact ⟨rfl, T1.out.bel⟩
  | true =>
    go_enter Tryd.func42, Tryd.ntmps42
    go_wp2_with fail
    refine (hb.out _ B0.out.bel).mono ?_
    rintro e w1 ⟨rfl, hb1⟩
    have T1 := Lib.hid (B0.out.below hb1 B0.out.lt)
    clear hb1
    obtain ⟨l1, p0, p1, p2, p3, _⟩ := T1.out
    go_wp2_with fail
    go_ret
    exact ⟨ret_bool (by first | rfl | exact len0 _ | exact len1 _ | (simp; done) | (rw [len0]; simp; done) | (rw [len1]; simp; done)), T1.out.bel⟩

set_option maxRecDepth 100000 in
set_option maxHeartbeats 1600000 in
theorem made_4 (n : Nat) (f : FT) (cs : List Value) (w : World) (IH : ∀ (f : FT) (cs : List Value) (w : World), FLies w.heap.size w n f cs → Calls Tryd.prog 42 #[.agg cs.toArray] w fun e w' => e = .returned (.bool (madeF n f)) ∧ Below w.heap.size w w')
    (h : FLies w.heap.size w (n + 1) f cs) (hk : f.kind = 4) :
    Calls Tryd.prog 42 #[.agg cs.toArray] w fun e w' => e = .returned (.bool (madeF (n + 1) f)) ∧ Below w.heap.size w w' := by
  have FL := fun W (hb : Below w.heap.size w W) => (h.below hb).mono hb.size
  obtain ⟨ta, tcap, ka, kcap, rfl, hlt, ht4, hk4, hks⟩ := h
  have B0 := Lib.hid (box_start w f.kind f.c ta ka f.t.length tcap f.ks.length kcap)
  have hb := Lib.hid (fun W hb => bare_any (n + 1) f _ W (FL W hb))
  rw [madeF_4 hk]
  rw [hk] at B0 hb
  rw [hk]
  generalize bareF f = b at hb
  cases b with
  | false =>
    rw [Bool.false_and]
    generalize f.c = fc at B0 hb
    generalize f.t.length = ft at B0 hb
    generalize f.ks.length = len at B0 hb hk4
    clear IH FL hks hlt ht4 hk
    go_enter Tryd.func42, Tryd.ntmps42
    go_wp2_with fail
    refine (hb.out _ B0.out.bel).mono ?_
    rintro e w1 ⟨rfl, hb1⟩
    have T1 := Lib.hid (B0.out.below hb1 B0.out.lt)
    clear hb1
    go_wp2_with fail
    go_ret
    exact ⟨rfl, T1.out.bel⟩
  | true =>
    rw [Bool.true_and]
    by_cases hl : f.ks.length = 1
    · obtain ⟨b, off, c0, c1, c2, c3, rfl, hblt, g0, g1, g2, g3, hf⟩ := hks 0 (by omega)
      obtain ⟨m, hm⟩ : ∃ m, n = m + 1 := by
        cases n with
        | zero => exact hf.elim
        | succ m => exact ⟨m, rfl⟩
      subst hm
      obtain ⟨tc, tccap, kc, kccap, e, _⟩ := hf
      simp only [List.cons.injEq, and_true] at e
      obtain ⟨rfl, rfl, rfl, rfl⟩ := e
      have hih := Lib.hid (fun W (hb : Below w.heap.size w W) => IH (f.ks.getD 0 default) _ W (by
        have hf0 := (hks 0 (by omega))
        obtain ⟨b', off', d0, d1, d2, d3, e, _, u0, u1, u2, u3, hff⟩ := hf0
        injection e with e
        injection e with e1 e2 _
        subst e1 e2
        rw [g0] at u0; rw [g1] at u1; rw [g2] at u2; rw [g3] at u3
        injection u0 with u0; injection u1 with u1; injection u2 with u2; injection u3 with u3
        subst u0 u1 u2 u3
        exact (hff.below hb).mono hb.size))
      rw [decide_eq_true hl, Bool.true_and]
      rw [hl] at B0 hb
      rw [hl]
      simp only [Nat.zero_mul, Nat.add_zero] at g0 g1 g2 g3
      generalize madeF (m + 1) (f.ks.getD 0 default) = u at hih
      generalize (f.ks.getD 0 default).kind = kk at g0 hih
      generalize (f.ks.getD 0 default).c = kc' at g1 hih
      generalize (f.ks.getD 0 default).t.length = kt at g2 hih
      generalize (f.ks.getD 0 default).ks.length = kl at g3 hih
      have HG := Lib.hid (fun W (hb : Below w.heap.size w W) => And.intro ((hb.cell (p := ⟨b, off, none⟩) hblt).trans g0) (And.intro ((hb.cell (p := ⟨b, off + 1, none⟩) hblt).trans g1) (And.intro ((hb.cell (p := ⟨b, off + 2, none⟩) hblt).trans g2) ((hb.cell (p := ⟨b, off + 3, none⟩) hblt).trans g3))))
      generalize f.c = fc at B0 hb
      generalize f.t.length = ft at B0 hb
      clear IH FL hks hlt ht4 hk hk4 hl g0 g1 g2 g3
      by_cases hkk : kk = 2
      · rw [decide_eq_true hkk, Bool.true_and]
        subst hkk
        go_enter Tryd.func42, Tryd.ntmps42
        go_wp2_with fail
        refine (hb.out _ B0.out.bel).mono ?_
        rintro e w1 ⟨rfl, hb1⟩
        have T1 := Lib.hid (B0.out.below hb1 B0.out.lt)
        clear hb1
        obtain ⟨l1, p0, p1, p2, p3, _⟩ := T1.out
        obtain ⟨g0, g1, g2, g3⟩ := HG.out _ T1.out.bel
        go_wp2_with fail
        refine (hih.out _ T1.out.bel).mono ?_
        rintro e w2 ⟨rfl, hb2⟩
        have T2 := Lib.hid (T1.out.below hb2 T1.out.lt)
        clear hb2 g0 g1 g2 g3 l1 p0 p1 p2 p3
        go_wp2_with fail
        go_ret
        exact ⟨ret_bool (by first | rfl | exact len0 _ | exact len1 _ | (simp; done) | (rw [len0]; simp; done) | (rw [len1]; simp; done)), T2.out.bel⟩
      · rw [decide_eq_false hkk, Bool.false_and]
        have hk2 : (kk == 2) = false := by simpa using hkk
        go_enter Tryd.func42, Tryd.ntmps42
        go_wp2_with fail
        refine (hb.out _ B0.out.bel).mono ?_
        rintro e w1 ⟨rfl, hb1⟩
        have T1 := Lib.hid (B0.out.below hb1 B0.out.lt)
        clear hb1
        obtain ⟨l1, p0, p1, p2, p3, _⟩ := T1.out
        obtain ⟨g0, g1, g2, g3⟩ := HG.out _ T1.out.bel
        go_wp2_with fail
        go_ret
        exact ⟨ret_bool (by first | rfl | exact len0 _ | exact len1 _ | (simp; done) | (rw [len0]; simp; done) | (rw [len1]; simp; done)), T1.out.bel⟩
    · rw [decide_eq_false hl, Bool.false_and]
      have hl2 : ((f.ks.length : Int) == 1) = false := by rw [len1]; exact decide_eq_false hl
      generalize f.c = fc at B0 hb
      generalize f.t.length = ft at B0 hb
      generalize f.ks.length = len at B0 hb hk4 hl2
      clear IH FL hks hlt ht4 hk hl
      go_enter Tryd.func42, Tryd.ntmps42
      go_wp2_with fail
      refine (hb.out _ B0.out.bel).mono ?_
      rintro e w1 ⟨rfl, hb1⟩
      have T1 := Lib.hid (B0.out.below hb1 B0.out.lt)
      clear hb1
      obtain ⟨l1, p0, p1, p2, p3, _⟩ := T1.out
      go_wp2_with fail
      go_ret
      exact ⟨ret_bool (by first | rfl | exact len0 _ | exact len1 _ | (simp; done) | (rw [len0]; simp; done) | (rw [len1]; simp; done)), T1.out.bel⟩

set_option maxRecDepth 100000 in
set_option maxHeartbeats 1600000 in
theorem made_5 (n : Nat) (f : FT) (cs : List Value) (w : World) (IH : ∀ (f : FT) (cs : List Value) (w : World), FLies w.heap.size w n f cs → Calls Tryd.prog 42 #[.agg cs.toArray] w fun e w' => e = .returned (.bool (madeF n f)) ∧ Below w.heap.size w w')
    (h : FLies w.heap.size w (n + 1) f cs) (hk : f.kind = 5) :
    Calls Tryd.prog 42 #[.agg cs.toArray] w fun e w' => e = .returned (.bool (madeF (n + 1) f)) ∧ Below w.heap.size w w' := by
  have FL := fun W (hb : Below w.heap.size w W) => (h.below hb).mono hb.size
  obtain ⟨ta, tcap, ka, kcap, rfl, hlt, ht4, hk4, hks⟩ := h
  have B0 := Lib.hid (box_start w f.kind f.c ta ka f.t.length tcap f.ks.length kcap)
  have hb := Lib.hid (fun W hb => bare_any (n + 1) f _ W (FL W hb))
  rw [madeF_5 (by omega)]
  have HI := Lib.hid IH
  have HK := Lib.hid hks
  have HY : Hid ((∀ i, i < f.ks.length → madeF n (f.ks.getD i default) = true) → (decide (∀ i, i < f.ks.length → madeF n (f.ks.getD i default) = true) && bareF f) = bareF f) := fun h => by rw [decide_eq_true h, Bool.true_and]
  have HNO : Hid (∀ i, i < f.ks.length → madeF n (f.ks.getD i default) = false → (decide (∀ i, i < f.ks.length → madeF n (f.ks.getD i default) = true) && bareF f) = false) := fun i hi h => by
    rw [decide_eq_false (fun hh => by rw [hh i hi] at h; cases h), Bool.false_and]
  generalize hr : (decide (∀ i, i < f.ks.length → madeF n (f.ks.getD i default) = true) && bareF f) = r at HY HNO
  clear hr
  rw [hk] at B0 hb
  rw [hk]
  generalize bareF f = b at hb HY
  generalize f.c = fc at B0 hb
  generalize f.t.length = ft at B0 hb
  generalize hl : f.ks.length = len at B0 hb hk4 HK HY HNO
  clear IH FL hks hlt ht4 hk hl
  go_enter Tryd.func42, Tryd.ntmps42
  go_wp2_with fail
  go_loopw [60] (fun i wr => ∃ k : Nat, k ≤ len ∧ i = .int .i64 k ∧ Hid (∀ j, j < k → madeF n (f.ks.getD j default) = true) ∧ Hid (Box w wr w.heap.size 5 fc ta ft tcap ka len kcap)) (fun i _ => len - (intOf i).toNat)
  case atStart => exact ⟨0, Nat.zero_le _, rfl, fun j hj => absurd hj (Nat.not_lt_zero j), B0⟩
  case round =>
    obtain ⟨k, hk, rfl, hok, hbx⟩ := hrel
    obtain ⟨bz, p0, p1, p2, p3, hbw⟩ := hbx.out
    by_cases hlt : k < len
    · obtain ⟨b', off, c0, c1, c2, c3, rfl, hblt, g0, g1, g2, g3, hf⟩ := HK.out k hlt
      rw [← hbw.cell (p := ⟨b', _, none⟩) hblt] at g0 g1 g2 g3
      obtain ⟨ck, cc, cta, ctn, ctcap, cka, ckn, ckcap, rfl, rfl, rfl, rfl⟩ := hf.form
      have hb2 : Below wr.heap.size wr (wr.alloc (.cells #[.int .i64 ck, .int .i64 cc, .slice cta ctn ctcap, .slice cka ckn ckcap] 27)) := (Below.refl _ _).alloc (Nat.le_refl _) _
      have hbw2 := hbw.trans (hb2.mono hbw.size)
      have hih := HI.out (f.ks.getD k default) _ _ ((hf.below hbw2).mono hbw2.size)
      have HB2 := Lib.hid hb2
      have hno := Lib.hid (HNO.out k hlt)
      have hy : Hid (madeF n (f.ks.getD k default) = true → ∀ j, j < k + 1 → madeF n (f.ks.getD j default) = true) := fun h j hj => by
        by_cases ej : j = k
        · rw [ej]; exact h
        · exact hok.out j (by omega)
      generalize madeF n (f.ks.getD k default) = u at hih hno hy
      clear hf hb2 hbw2 hok
      cases u with
      | true =>
        have hy2 := Lib.hid (hy.out rfl)
        clear hy hno
        go_wp2_with fail
        refine hih.mono ?_
        rintro e w1 ⟨rfl, hb1⟩
        have BX := Lib.hid ((hbx.out.below HB2.out bz).below hb1 (by have := HB2.out.size; omega))
        clear g0 g1 g2 g3 hih hb1 p0 p1 p2 p3 hbw
        go_wp2_with fail
        go_roundw
        case rel => exact ⟨k + 1, by omega, by go_num, hy2, BX⟩
        case measure => simp [intOf]; omega
      | false =>
        have hr : r = false := hno.out rfl
        subst hr
        clear hy hno
        go_wp2_with fail
        refine hih.mono ?_
        rintro e w1 ⟨rfl, hb1⟩
        have BX := Lib.hid ((hbx.out.below HB2.out bz).below hb1 (by have := HB2.out.size; omega))
        clear g0 g1 g2 g3 hih hb1 p0 p1 p2 p3 hbw
        go_wp2_with fail
        go_ret
        exact ⟨rfl, BX.out.bel⟩
    · have hr : r = b := HY.out (fun i hi => hok.out i (by omega))
      subst hr
      clear hok
      go_wp2_with fail
      refine (hb.out _ hbw).mono ?_
      rintro e w1 ⟨rfl, hb1⟩
      have BX := Lib.hid (hbx.out.below hb1 bz)
      clear hb1 p0 p1 p2 p3 hbw
      go_wp2_with fail
      go_ret
      exact ⟨rfl, BX.out.bel⟩

set_option maxRecDepth 100000 in
set_option maxHeartbeats 1600000 in
theorem made_6 (n : Nat) (f : FT) (cs : List Value) (w : World) (IH : ∀ (f : FT) (cs : List Value) (w : World), FLies w.heap.size w n f cs → Calls Tryd.prog 42 #[.agg cs.toArray] w fun e w' => e = .returned (.bool (madeF n f)) ∧ Below w.heap.size w w')
    (h : FLies w.heap.size w (n + 1) f cs) (hk : f.kind = 6) :
    Calls Tryd.prog 42 #[.agg cs.toArray] w fun e w' => e = .returned (.bool (madeF (n + 1) f)) ∧ Below w.heap.size w w' := by
  have FL := fun W (hb : Below w.heap.size w W) => (h.below hb).mono hb.size
  obtain ⟨ta, tcap, ka, kcap, rfl, hlt, ht4, hk4, hks⟩ := h
  have B0 := Lib.hid (box_start w f.kind f.c ta ka f.t.length tcap f.ks.length kcap)
  have hb := Lib.hid (fun W hb => bare_any (n + 1) f _ W (FL W hb))
  rw [madeF_5 (by omega)]
  have HI := Lib.hid IH
  have HK := Lib.hid hks
  have HY : Hid ((∀ i, i < f.ks.length → madeF n (f.ks.getD i default) = true) → (decide (∀ i, i < f.ks.length → madeF n (f.ks.getD i default) = true) && bareF f) = bareF f) := fun h => by rw [decide_eq_true h, Bool.true_and]
  have HNO : Hid (∀ i, i < f.ks.length → madeF n (f.ks.getD i default) = false → (decide (∀ i, i < f.ks.length → madeF n (f.ks.getD i default) = true) && bareF f) = false) := fun i hi h => by
    rw [decide_eq_false (fun hh => by rw [hh i hi] at h; cases h), Bool.false_and]
  generalize hr : (decide (∀ i, i < f.ks.length → madeF n (f.ks.getD i default) = true) && bareF f) = r at HY HNO
  clear hr
  rw [hk] at B0 hb
  rw [hk]
  generalize bareF f = b at hb HY
  generalize f.c = fc at B0 hb
  generalize f.t.length = ft at B0 hb
  generalize hl : f.ks.length = len at B0 hb hk4 HK HY HNO
  clear IH FL hks hlt ht4 hk hl
  go_enter Tryd.func42, Tryd.ntmps42
  go_wp2_with fail
  go_loopw [60] (fun i wr => ∃ k : Nat, k ≤ len ∧ i = .int .i64 k ∧ Hid (∀ j, j < k → madeF n (f.ks.getD j default) = true) ∧ Hid (Box w wr w.heap.size 6 fc ta ft tcap ka len kcap)) (fun i _ => len - (intOf i).toNat)
  case atStart => exact ⟨0, Nat.zero_le _, rfl, fun j hj => absurd hj (Nat.not_lt_zero j), B0⟩
  case round =>
    obtain ⟨k, hk, rfl, hok, hbx⟩ := hrel
    obtain ⟨bz, p0, p1, p2, p3, hbw⟩ := hbx.out
    by_cases hlt : k < len
    · obtain ⟨b', off, c0, c1, c2, c3, rfl, hblt, g0, g1, g2, g3, hf⟩ := HK.out k hlt
      rw [← hbw.cell (p := ⟨b', _, none⟩) hblt] at g0 g1 g2 g3
      obtain ⟨ck, cc, cta, ctn, ctcap, cka, ckn, ckcap, rfl, rfl, rfl, rfl⟩ := hf.form
      have hb2 : Below wr.heap.size wr (wr.alloc (.cells #[.int .i64 ck, .int .i64 cc, .slice cta ctn ctcap, .slice cka ckn ckcap] 27)) := (Below.refl _ _).alloc (Nat.le_refl _) _
      have hbw2 := hbw.trans (hb2.mono hbw.size)
      have hih := HI.out (f.ks.getD k default) _ _ ((hf.below hbw2).mono hbw2.size)
      have HB2 := Lib.hid hb2
      have hno := Lib.hid (HNO.out k hlt)
      have hy : Hid (madeF n (f.ks.getD k default) = true → ∀ j, j < k + 1 → madeF n (f.ks.getD j default) = true) := fun h j hj => by
        by_cases ej : j = k
        · rw [ej]; exact h
        · exact hok.out j (by omega)
      generalize madeF n (f.ks.getD k default) = u at hih hno hy
      clear hf hb2 hbw2 hok
      cases u with
      | true =>
        have hy2 := Lib.hid (hy.out rfl)
        clear hy hno
        go_wp2_with fail
        refine hih.mono ?_
        rintro e w1 ⟨rfl, hb1⟩
        have BX := Lib.hid ((hbx.out.below HB2.out bz).below hb1 (by have := HB2.out.size; omega))
        clear g0 g1 g2 g3 hih hb1 p0 p1 p2 p3 hbw
        go_wp2_with fail
        go_roundw
        case rel => exact ⟨k + 1, by omega, by go_num, hy2, BX⟩
        case measure => simp [intOf]; omega
      | false =>
        have hr : r = false := hno.out rfl
        subst hr
        clear hy hno
        go_wp2_with fail
        refine hih.mono ?_
        rintro e w1 ⟨rfl, hb1⟩
        have BX := Lib.hid ((hbx.out.below HB2.out bz).below hb1 (by have := HB2.out.size; omega))
        clear g0 g1 g2 g3 hih hb1 p0 p1 p2 p3 hbw
        go_wp2_with fail
        go_ret
        exact ⟨rfl, BX.out.bel⟩
    · have hr : r = b := HY.out (fun i hi => hok.out i (by omega))
      subst hr
      clear hok
      go_wp2_with fail
      refine (hb.out _ hbw).mono ?_
      rintro e w1 ⟨rfl, hb1⟩
      have BX := Lib.hid (hbx.out.below hb1 bz)
      clear hb1 p0 p1 p2 p3 hbw
      go_wp2_with fail
      go_ret
      exact ⟨rfl, BX.out.bel⟩

set_option maxRecDepth 100000 in
set_option maxHeartbeats 1600000 in
theorem made_x (n : Nat) (f : FT) (cs : List Value) (w : World) (IH : ∀ (f : FT) (cs : List Value) (w : World), FLies w.heap.size w n f cs → Calls Tryd.prog 42 #[.agg cs.toArray] w fun e w' => e = .returned (.bool (madeF n f)) ∧ Below w.heap.size w w')
    (h : FLies w.heap.size w (n + 1) f cs) (hk : ¬ (f.kind = 0 ∨ f.kind = 1) ∧ f.kind ≠ 2 ∧ f.kind ≠ 4 ∧ ¬ (f.kind = 5 ∨ f.kind = 6)) :
    Calls Tryd.prog 42 #[.agg cs.toArray] w fun e w' => e = .returned (.bool (madeF (n + 1) f)) ∧ Below w.heap.size w w' := by
  have FL := fun W (hb : Below w.heap.size w W) => (h.below hb).mono hb.size
  obtain ⟨ta, tcap, ka, kcap, rfl, hlt, ht4, hk4, hks⟩ := h
  have B0 := Lib.hid (box_start w f.kind f.c ta ka f.t.length tcap f.ks.length kcap)
  rw [madeF_x hk]
  have e0 : (f.kind == 0) = false := by simp; omega
  have e1 : (f.kind == 1) = false := by simp; omega
  have e2 : (f.kind == 2) = false := by simp; omega
  have e4 : (f.kind == 4) = false := by simp; omega
  have e5 : (f.kind == 5) = false := by simp; omega
  have e6 : (f.kind == 6) = false := by simp; omega
  clear IH FL hks hlt ht4 hk
  generalize f.kind = fk at B0 e0 e1 e2 e4 e5 e6
  generalize f.c = fc at B0
  generalize f.t.length = ft at B0
  generalize f.ks.length = len at B0 hk4
  go_enter Tryd.func42, Tryd.ntmps42
  go_wp2_with fail
  go_ret
  exact ⟨rfl, B0.out.bel⟩

theorem made_any : ∀ (n : Nat) (f : FT) (cs : List Value) (w : World), FLies w.heap.size w n f cs →
    Calls Tryd.prog 42 #[.agg cs.toArray] w fun e w' => e = .returned (.bool (madeF n f)) ∧ Below w.heap.size w w'
  | 0, _, _, _, h => h.elim
  | n + 1, f, cs, w, h => by
    have IH := made_any n
    by_cases h0 : f.kind = 0
    · exact made_0 n f cs w IH h h0
    by_cases h1 : f.kind = 1
    · exact made_1 n f cs w IH h h1
    by_cases h2 : f.kind = 2
    · exact made_2 n f cs w IH h h2
    by_cases h4 : f.kind = 4
    · exact made_4 n f cs w IH h h4
    by_cases h5 : f.kind = 5
    · exact made_5 n f cs w IH h h5
    by_cases h6 : f.kind = 6
    · exact made_6 n f cs w IH h h6
    exact made_x n f cs w IH h ⟨by omega, h2, h4, by omega⟩
end Go.Proofs.YtelndcmfddbgiaaDoor
