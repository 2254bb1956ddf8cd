/- The document's own Add. -/
import Derived.Test.YtnefolkhoeocjaaLinRM
import Derived.Test.YtnefolkhoeocjaaLinRT
import Derived.Test.YtnefolkhoeocjaaLinG2
import Derived.Test.YtnefolkhoeocjaaLinK5
namespace Go.Proofs.Ytnefolkhoeocjaa
open Go.RowKit

attribute [local go_sem ↓] Go.wp_at_zero Go.wp_at_succ

theorem far_cells {w W : World} {N : Nat} {ca cb : Int} {a b : Option Addr} {na nb capa capb : Nat} {x y : Value} (h : Three w W N ca cb a b na nb capa capb) :
    ((W.setCell ⟨N + 1 + 1, 0, none⟩ x).setCell ⟨N + 1 + 1, 1, none⟩ y).cell? ⟨N, 0, none⟩ = some (.int .i64 ca) ∧ ((W.setCell ⟨N + 1 + 1, 0, none⟩ x).setCell ⟨N + 1 + 1, 1, none⟩ y).cell? ⟨N, 1, none⟩ = some (.slice a na capa) ∧
    ((W.setCell ⟨N + 1 + 1, 0, none⟩ x).setCell ⟨N + 1 + 1, 1, none⟩ y).cell? ⟨N + 1, 0, none⟩ = some (.int .i64 cb) ∧ ((W.setCell ⟨N + 1 + 1, 0, none⟩ x).setCell ⟨N + 1 + 1, 1, none⟩ y).cell? ⟨N + 1, 1, none⟩ = some (.slice b nb capb) := by
  refine ⟨?_, ?_, ?_, ?_⟩
  all_goals rw [World.cell?_setCell_other _ _ _ _ (by simp), World.cell?_setCell_other _ _ _ _ (by simp)]
  · exact h.a0
  · exact h.a1
  · exact h.b0
  · exact h.b1
set_option maxRecDepth 100000 in
set_option maxHeartbeats 3200000 in
theorem radd_ok (ca cb x y : Int) (a b : Option Addr) (na nb capa capb : Nat) (la lb R : List (Int × Int)) (w : World) (hna : la.length = na) (hnb : lb.length = nb) (hla : Lies w.heap.size w a la) (hlb : Lies w.heap.size w b lb)
    (ha : snd ca la = true) (hb : snd cb lb = true) (hx : -4096 ≤ x ∧ x ≤ 4096) (hy : -4096 ≤ y ∧ y ≤ 4096) (hR : IsSum (scale x la ++ scale y lb) R) :
    Calls Try.prog 19 #[.agg #[.int .i64 ca, .slice a na capa], .agg #[.int .i64 cb, .slice b nb capb], .int .i64 x, .int .i64 y] w (LinAns w.heap.size (rAns (x * ca + y * cb) R).1 (rAns (x * ca + y * cb) R).2.1 (.int .i64 (rAns (x * ca + y * cb) R).2.2) w) := by
  have hca : -1073741824 ≤ ca ∧ ca ≤ 1073741824 := by have := (snd_iff.1 ha).1; unfold wi at this; simpa using this
  have hcb : -1073741824 ≤ cb ∧ cb ≤ 1073741824 := by have := (snd_iff.1 hb).1; unfold wi at this; simpa using this
  have m1 := mul_in hx hca
  have m2 := mul_in hy hcb
  have n1 : na ≤ 64 := by have := (snd_iff.1 ha).2.1; omega
  have n2 : nb ≤ 64 := by have := (snd_iff.1 hb).2.1; omega
  have hck1 := fun W (hb : Below w.heap.size w W) => rcheck_any ca a na capa la W hna (by omega) ((hla.below hb).mono hb.size)
  have hck2 := fun W (hb' : Below w.heap.size w W) => rcheck_any cb b nb capb lb W hnb (by omega) ((hlb.below hb').mono hb'.size)
  rw [ha] at hck1
  rw [hb] at hck2
  have ht := both_terms ha hb hx hy
  have ht1 := fun W (hbW : Below w.heap.size w W) => rtimes_any ca x a na capa la W hna n1 ((hla.below hbW).mono hbW.size) (fun m hm => mul_in hx (snd_terms ha m hm).2)
  have ht2 := fun W (hbW : Below w.heap.size w W) => rtimes_any cb y b nb capb lb W hnb n2 ((hlb.below hbW).mono hbW.size) (fun m hm => mul_in hy (snd_terms hb m hm).2)
  have hsl : (scale x la).length + (scale y lb).length ≤ 128 := by rw [scale_len, scale_len]; omega
  have hsum := fun (aa : Option Addr) (cap : Nat) W (hl : Lies W.heap.size W aa (scale x la ++ scale y lb)) => (rsum_any (x * ca + y * cb) aa ((scale x la).length + (scale y lb).length) cap _ R W List.length_append (by omega) hl ht.1 ht.2 hR).mono fun _ _ h => h.ans
  generalize rAns (x * ca + y * cb) R = rr at hsum
  obtain ⟨c', R', r⟩ := rr
  generalize scale x la = sa at hsum ht1 hsl
  generalize scale y lb = sb at hsum ht2 hsl
  have HC1 := Lib.hid hck1
  have HC2 := Lib.hid hck2
  have HT1 := Lib.hid ht1
  have HT2 := Lib.hid ht2
  have HS := Lib.hid hsum
  have T0 := Lib.hid (three_start w ca cb a b na nb capa capb)
  clear hna hnb hla hlb ha hb hck1 hck2 ht ht1 ht2 hsum hR hca hcb n1 n2
  go_enter Try.func19, Try.ntmps19
  go_wp2_with fail
  refine (HC1.out _ T0.out.bel).mono ?_
  rintro e w1 ⟨rfl, hb1⟩
  have T1 := Lib.hid (T0.out.below hb1 T0.out.lt)
  obtain ⟨l1, _, _, b10, b11, _, _, _, _⟩ := T1.out
  have l1' : w.heap.size + 1 < w1.heap.size := by omega
  clear hb1
  go_wp2_with fail
  refine (HC2.out _ T1.out.bel).mono ?_
  rintro e w2 ⟨rfl, hb2⟩
  have T2 := Lib.hid (T1.out.below hb2 T1.out.lt)
  clear hb2 b10 b11 l1 l1'
  have hw1 : IntKind.i64.wrap (x * ca) = x * ca := IntWalk.i64_in _ (by omega)
  have hw2 : IntKind.i64.wrap (y * cb) = y * cb := IntWalk.i64_in _ (by omega)
  have hw3 : IntKind.i64.wrap (x * ca + y * cb) = x * ca + y * cb := IntWalk.i64_in _ (by omega)
  obtain ⟨l2, a0, a1, b0, b1, r0, r1, rf, _⟩ := T2.out
  have d1 : decide (x < -4096) = false := by simp; omega
  have d2 : decide (4096 < x) = false := by simp; omega
  have d3 : decide (y < -4096) = false := by simp; omega
  have d4 : decide (4096 < y) = false := by simp; omega
  clear r0 r1 rf
  go_wp2_with fail
  go_region_held3 (fun w' => w'.cell? ⟨w.heap.size, 0, none⟩ = some (.int .i64 ca) ∧ w'.cell? ⟨w.heap.size, 1, none⟩ = some (.slice a na capa) ∧ w'.cell? ⟨w.heap.size + 1, 0, none⟩ = some (.int .i64 cb) ∧ w'.cell? ⟨w.heap.size + 1, 1, none⟩ = some (.slice b nb capb))
    (first
      | exact ⟨T6.out.a0, T6.out.a1, T6.out.b0, T6.out.b1⟩
      | exact ⟨T5.out.a0, T5.out.a1, T5.out.b0, T5.out.b1⟩
      | exact ⟨T4.out.a0, T4.out.a1, T4.out.b0, T4.out.b1⟩
      | exact ⟨T3.out.a0, T3.out.a1, T3.out.b0, T3.out.b1⟩
      | exact SE.out
      | go_keep)
    (first
      | (go_at_call_of 34 (Value.agg #[.int .i64 ca, .slice a na capa])
         refine (HT1.out _ T2.out.bel.drew).mono ?_
         rintro e w3 ⟨v3, rfl, hrow3, hb3⟩
         obtain ⟨a3, cap3, rfl, _, _⟩ := hrow3.lies
         have T3 := Lib.hid (T2.out.below ((Below.refl _ w2).drew.trans hb3) T2.out.lt))
      | (go_at_call_of 34 (Value.agg #[.int .i64 cb, .slice b nb capb])
         refine (HT2.out _ T3.out.bel).mono ?_
         rintro e w4 ⟨v4, rfl, hrow4, hb4⟩
         obtain ⟨a4, cap4, rfl, _, _⟩ := hrow4.lies
         have T4 := Lib.hid (T3.out.below hb4 T3.out.lt)
         have hrow34 := hrow3.below hb4)
      | (refine step_append_two (by rfl) _ _ (by rfl) w2.heap.size w3.heap.size _ _ sa sb (by rfl) (by rfl) hrow34 hrow4 (by have := T4.out.lt; have := hb4.size; have := hb3.size; simp at this; omega) (by omega) ?_
         intro a5 cap5 w5 hrow5 hgrow5
         have T5 := Lib.hid (T4.out.below ((Below.refl w2.heap.size w4).grown hgrow5 (by have := hb4.size; have := hb3.size; simp at this; omega) (fun j hj => (World.ownsRow.lt hrow34 j hj).1)) T2.out.lt)
         have hlies5 := hrow5.lies2)
      | (go_at_call 33
         refine (HS.out a5 cap5 w5 hlies5).mono ?_
         rintro e w6 ⟨v6, rfl, hrow6, hb6⟩
         obtain ⟨a6, cap6, rfl, _, _⟩ := hrow6.lies
         have T6 := Lib.hid (T5.out.below hb6 T5.out.lt)
         have r60 := T6.out.r0
         have r61 := T6.out.r1
         have rf6 := T6.out.rf
         have SE := Lib.hid (far_cells (x := .int .i64 c') (y := .slice a6 R'.length cap6) T6.out)))
  have hrowf : Row w.heap.size R' (.slice a6 R'.length cap6) ((w6.setCell ⟨w.heap.size + 2, 0, none⟩ (.int .i64 c')).setCell ⟨w.heap.size + 2, 1, none⟩ (.slice a6 R'.length cap6)) :=
    Row.mono (ownsRow_setCell_below (ownsRow_setCell_below hrow6 (by have := T5.out.lt; simpa using this) _) (by have := T5.out.lt; simpa using this) _) (by have := T5.out.lt; omega)
  have hbf := (T6.out.bel.setCell (p := ⟨w.heap.size + 2, 0, none⟩) (Nat.le_add_right _ _) (.int .i64 c')).setCell (p := ⟨w.heap.size + 2, 1, none⟩) (Nat.le_add_right _ _) (.slice a6 R'.length cap6)
  obtain ⟨e0, e1⟩ := res_cells w6 (w.heap.size + 2) (.int .i64 c') (.slice a6 R'.length cap6) _ _ r60 r61
  clear r60 r61 rf6 hrow6 hb6 hgrow5 hrow5 hrow34 hrow3 hrow4 hb3 hb4 a0 a1 b0 b1
  go_wp2_with fail
  refine bodyPost_ret (v := .tuple #[.agg #[.int .i64 c', .slice a6 R'.length cap6], .int .i64 r]) ?_ rfl ⟨_, rfl, hrowf, hbf⟩
  simp [results, Try.results19, go_sem, e0, e1]

set_option maxRecDepth 100000 in
set_option maxHeartbeats 1600000 in
theorem radd_form (ca cb x y : Int) (a b : Option Addr) (na nb capa capb : Nat) (la lb : List (Int × Int)) (w : World) (hna : la.length = na) (hnb : lb.length = nb) (hma : na ≤ 9223372036854775807) (hmb : nb ≤ 9223372036854775807) (hla : Lies w.heap.size w a la) (hlb : Lies w.heap.size w b lb)
    (h : snd ca la = false ∨ snd cb lb = false) :
    Calls Try.prog 19 #[.agg #[.int .i64 ca, .slice a na capa], .agg #[.int .i64 cb, .slice b nb capb], .int .i64 x, .int .i64 y] w (LinAns w.heap.size 0 [] (.int .i64 5) w) := by
  have hck1 := fun W (hb : Below w.heap.size w W) => rcheck_any ca a na capa la W hna hma ((hla.below hb).mono hb.size)
  have hck2 := fun W (hb' : Below w.heap.size w W) => rcheck_any cb b nb capb lb W hnb hmb ((hlb.below hb').mono hb'.size)
  have T0 := Lib.hid (three_start w ca cb a b na nb capa capb)
  by_cases ha : snd ca la = true
  · have hb : snd cb lb = false := by
      rcases h with h | h
      · rw [ha] at h; cases h
      · exact h
    rw [ha] at hck1
    rw [hb] at hck2
    have HC1 := Lib.hid hck1
    have HC2 := Lib.hid hck2
    clear hna hnb hla hlb hma hmb hck1 hck2 h ha hb
    go_enter Try.func19, Try.ntmps19
    go_wp2_with fail
    refine (HC1.out _ T0.out.bel).mono ?_
    rintro e w1 ⟨rfl, hb1⟩
    have T1 := Lib.hid (T0.out.below hb1 T0.out.lt)
    obtain ⟨l1, _, _, b10, b11, _, _, _, _⟩ := T1.out
    have l1' : w.heap.size + 1 < w1.heap.size := by omega
    clear hb1
    go_wp2_with fail
    refine (HC2.out _ T1.out.bel).mono ?_
    rintro e w2 ⟨rfl, hb2⟩
    have T2 := Lib.hid (T1.out.below hb2 T1.out.lt)
    clear hb2 b10 b11 l1 l1'
    obtain ⟨l2, _, _, _, _, r0, r1, rf, bel⟩ := T2.out
    have hbf := (bel.setCell (p := ⟨w.heap.size + 2, 0, none⟩) (Nat.le_add_right _ _) (.int .i64 0)).setCell (p := ⟨w.heap.size + 2, 1, none⟩) (Nat.le_add_right _ _) (.slice none 0 0)
    obtain ⟨e0, e1⟩ := res_cells w2 (w.heap.size + 2) (.int .i64 0) (.slice none 0 0) _ _ r0 r1
    go_wp2_with fail
    refine bodyPost_ret (v := .tuple #[.agg #[.int .i64 0, .slice none 0 0], .int .i64 5]) ?_ rfl ⟨_, rfl, World.ownsRow_nil _ _ _ _, hbf⟩
    clear r0 r1 rf
    simp [results, Try.results19, go_sem, e0, e1]
  · have ha' : snd ca la = false := by simpa using ha
    rw [ha'] at hck1
    have HC1 := Lib.hid hck1
    clear hna hnb hla hlb hma hmb hck1 hck2 h ha ha'
    go_enter Try.func19, Try.ntmps19
    go_wp2_with fail
    refine (HC1.out _ T0.out.bel).mono ?_
    rintro e w1 ⟨rfl, hb1⟩
    have T1 := Lib.hid (T0.out.below hb1 T0.out.lt)
    obtain ⟨l1, _, _, _, _, r0, r1, rf, bel⟩ := T1.out
    have hbf := (bel.setCell (p := ⟨w.heap.size + 2, 0, none⟩) (Nat.le_add_right _ _) (.int .i64 0)).setCell (p := ⟨w.heap.size + 2, 1, none⟩) (Nat.le_add_right _ _) (.slice none 0 0)
    obtain ⟨e0, e1⟩ := res_cells w1 (w.heap.size + 2) (.int .i64 0) (.slice none 0 0) _ _ r0 r1
    clear hb1
    go_wp2_with fail
    refine bodyPost_ret (v := .tuple #[.agg #[.int .i64 0, .slice none 0 0], .int .i64 5]) ?_ rfl ⟨_, rfl, World.ownsRow_nil _ _ _ _, hbf⟩
    clear r0 r1 rf
    simp [results, Try.results19, go_sem, e0, e1]

set_option maxRecDepth 100000 in
set_option maxHeartbeats 1600000 in
theorem radd_arg (ca cb x y : Int) (a b : Option Addr) (na nb capa capb : Nat) (la lb : List (Int × Int)) (w : World) (hna : la.length = na) (hnb : lb.length = nb) (hma : na ≤ 9223372036854775807) (hmb : nb ≤ 9223372036854775807) (hla : Lies w.heap.size w a la) (hlb : Lies w.heap.size w b lb)
    (ha : snd ca la = true) (hb : snd cb lb = true) (h : ¬ ((-4096 ≤ x ∧ x ≤ 4096) ∧ -4096 ≤ y ∧ y ≤ 4096)) :
    Calls Try.prog 19 #[.agg #[.int .i64 ca, .slice a na capa], .agg #[.int .i64 cb, .slice b nb capb], .int .i64 x, .int .i64 y] w (LinAns w.heap.size 0 [] (.int .i64 1) w) := by
  have hck1 := fun W (hb : Below w.heap.size w W) => rcheck_any ca a na capa la W hna hma ((hla.below hb).mono hb.size)
  have hck2 := fun W (hb' : Below w.heap.size w W) => rcheck_any cb b nb capb lb W hnb hmb ((hlb.below hb').mono hb'.size)
  have T0 := Lib.hid (three_start w ca cb a b na nb capa capb)
  rw [ha] at hck1
  rw [hb] at hck2
  have HC1 := Lib.hid hck1
  have HC2 := Lib.hid hck2
  have hd : (decide (x < -4096) || decide (4096 < x) || decide (y < -4096) || decide (4096 < y)) = true := by simp; omega
  clear hna hnb hla hlb hma hmb hck1 hck2 h ha hb
  go_enter Try.func19, Try.ntmps19
  go_wp2_with fail
  refine (HC1.out _ T0.out.bel).mono ?_
  rintro e w1 ⟨rfl, hb1⟩
  have T1 := Lib.hid (T0.out.below hb1 T0.out.lt)
  obtain ⟨l1, _, _, b10, b11, _, _, _, _⟩ := T1.out
  have l1' : w.heap.size + 1 < w1.heap.size := by omega
  clear hb1
  go_wp2_with fail
  refine (HC2.out _ T1.out.bel).mono ?_
  rintro e w2 ⟨rfl, hb2⟩
  have T2 := Lib.hid (T1.out.below hb2 T1.out.lt)
  clear hb2 b10 b11 l1 l1'
  obtain ⟨l2, _, _, _, _, r0, r1, rf, bel⟩ := T2.out
  have hbf := (bel.setCell (p := ⟨w.heap.size + 2, 0, none⟩) (Nat.le_add_right _ _) (.int .i64 0)).setCell (p := ⟨w.heap.size + 2, 1, none⟩) (Nat.le_add_right _ _) (.slice none 0 0)
  obtain ⟨e0, e1⟩ := res_cells w2 (w.heap.size + 2) (.int .i64 0) (.slice none 0 0) _ _ r0 r1
  go_wp2_with fail
  all_goals
    refine bodyPost_ret (v := .tuple #[.agg #[.int .i64 0, .slice none 0 0], .int .i64 1]) ?_ rfl ⟨_, rfl, World.ownsRow_nil _ _ _ _, hbf⟩
    clear r0 r1 rf
    simp [results, Try.results19, go_sem, e0, e1]
end Go.Proofs.Ytnefolkhoeocjaa
