/- cut.tell: what a step tells. cut.tell: the walk. -/
import Derived.Test.YtmjhjacbhflcpaaDoorCl05
set_option linter.unusedVariables false
set_option linter.unusedSimpArgs false
namespace Go.Proofs.YtmjhjacbhflcpaaDoor
open Go.RowKit Go.Maps

def sumOf (l : List (Int × Int)) : List (Int × Int) := (tog (l.mergeSort fun a b => decide (a.1 ≤ b.1))).filter fun m => m.2 != 0
theorem sumOf_is (l : List (Int × Int)) : IsSum l (sumOf l) := by
  refine (tog_isSum (l.mergeSort fun a b => decide (a.1 ≤ b.1)) ?_).perm (List.mergeSort_perm _ _)
  intro i j hij hj
  have hs := List.pairwise_mergeSort (le := fun a b : Int × Int => decide (a.1 ≤ b.1)) (fun a b c h1 h2 => by simp at *; omega) (fun a b => by simp; omega) l
  have := List.pairwise_iff_getElem.1 hs i j (by omega) hj hij
  simp only [List.getD_eq_getElem?_getD]
  rw [List.getElem?_eq_getElem hj, List.getElem?_eq_getElem (by omega)]
  simpa using this
theorem sumOf_len (l : List (Int × Int)) : (sumOf l).length ≤ l.length := by
  have h1 := tog_len (l.mergeSort fun a b => decide (a.1 ≤ b.1)) _ (Nat.le_refl _)
  rw [List.take_length, List.length_mergeSort] at h1
  exact Nat.le_trans (List.length_filter_le _ _) h1

/-- Are all forms sound? -/
def lsOk (ls : List (Int × List (Int × Int))) : Prop := ∀ i, i < ls.length → snd (ls.getD i (0, [])).1 (ls.getD i (0, [])).2 = true
theorem partsK_zero {n : Int} {ps : List (Int × Int)} : ∀ {k}, partsK n ps k = 0 → ∀ j, j < k → partK n (ps.getD j (0, 0)) = 0
  | 0, _, j, hj => absurd hj (Nat.not_lt_zero _)
  | k + 1, h, j, hj => by
    have h' : (if partsK n ps k = 0 then partK n (ps.getD k (0, 0)) else partsK n ps k) = 0 := h
    by_cases e : partsK n ps k = 0
    · rw [if_pos e] at h'
      by_cases hjk : j = k
      · subst hjk; exact h'
      · exact partsK_zero e j (by omega)
    · rw [if_neg e] at h'; exact absurd h' e
theorem stepK_ok {ls : List (Int × List (Int × Int))} {ps : List (Int × Int)} {div : Int} (h : stepK ls.length ps div = 0) (hok : lsOk ls) : partsOk ls ps ∧ 1 ≤ div ∧ div ≤ 1073741824 := by
  unfold stepK at h
  by_cases h64 : 64 < ps.length
  · rw [if_pos h64] at h; cases h
  · rw [if_neg h64] at h
    by_cases hp : partsK ls.length ps ps.length = 0
    · rw [if_pos hp] at h
      by_cases hd : div < 1 ∨ 1073741824 < div
      · rw [if_pos hd] at h; cases h
      · refine ⟨⟨by omega, fun k hk => ?_⟩, by omega, by omega⟩
        have h1 := partsK_zero hp k hk
        unfold partK at h1
        by_cases a : (ps.getD k (0, 0)).1 < 0 ∨ (ls.length : Int) ≤ (ps.getD k (0, 0)).1
        · rw [if_pos a] at h1; cases h1
        · rw [if_neg a] at h1
          by_cases b : (ps.getD k (0, 0)).2 < 1 ∨ 4096 < (ps.getD k (0, 0)).2
          · rw [if_pos b] at h1; cases h1
          · exact ⟨⟨by omega, by omega⟩, ⟨by omega, by omega⟩, hok _ (by omega)⟩
    · rw [if_neg hp] at h; exact absurd h hp
/-- Does it divide all coefficients? -/
def allDiv (g : Int) (R : List (Int × Int)) : Bool := R.all fun m => m.2.tmod g == 0
theorem allDiv_of {g : Int} {R : List (Int × Int)} (h : ∀ k, k < R.length → (R.getD k (0, 0)).2.tmod g = 0) : allDiv g R = true := by
  refine List.all_eq_true.2 fun m hm => ?_
  obtain ⟨k, hk, rfl⟩ := List.getElem_of_mem hm
  have := h k hk
  simpa [List.getD_eq_getElem?_getD, hk] using this
theorem allDiv_get {g : Int} {R : List (Int × Int)} (h : allDiv g R = true) (k : Nat) (hk : k < R.length) : (R.getD k (0, 0)).2.tmod g = 0 := by
  have := List.all_eq_true.1 h R[k] (List.getElem_mem hk)
  simpa [List.getD_eq_getElem?_getD, hk] using this
theorem allDiv_not {g : Int} {R : List (Int × Int)} {k : Nat} (hk : k < R.length) (h : (R.getD k (0, 0)).2.tmod g ≠ 0) : allDiv g R = false := by
  cases e : allDiv g R
  · rfl
  · exact absurd (allDiv_get e k hk) h
/-- What is amiss with a step. -/
def tellK (n c div : Int) (ps R : List (Int × Int)) : Int :=
  if stepK n ps div ≠ 0 then stepK n ps div
  else if wi c 4398046511104 = false ∨ allIn 4398046511104 R = false then 3
  else if allDiv div R = false then 7
  else divK (upI c div) (divT div R)
structure TellIs (n c div : Int) (ps R : List (Int × Int)) (x C : Int) (E : List (Int × Int)) : Prop where
  ok : tellK n c div ps R = 0 → x = 0 ∧ C = upI c div ∧ E = divT div R
  bad : tellK n c div ps R ≠ 0 → x = tellK n c div ps R ∧ C = 0 ∧ E = []
theorem tellK_step {n c div : Int} {ps R : List (Int × Int)} (h : stepK n ps div ≠ 0) : tellK n c div ps R = stepK n ps div := by unfold tellK; rw [if_pos h]
theorem tellK_far {n c div : Int} {ps R : List (Int × Int)} (h : stepK n ps div = 0) (h2 : wi c 4398046511104 = false ∨ allIn 4398046511104 R = false) : tellK n c div ps R = 3 := by
  unfold tellK; rw [if_neg (by omega), if_pos h2]
theorem tellK_div {n c div : Int} {ps R : List (Int × Int)} (h : stepK n ps div = 0) (h2 : wi c 4398046511104 = true) (h3 : allIn 4398046511104 R = true) (h4 : allDiv div R = false) : tellK n c div ps R = 7 := by
  unfold tellK; rw [if_neg (by omega), if_neg (by simp [h2, h3]), if_pos h4]
theorem tellK_ok {n c div : Int} {ps R : List (Int × Int)} (h : stepK n ps div = 0) (h2 : wi c 4398046511104 = true) (h3 : allIn 4398046511104 R = true) (h4 : allDiv div R = true) : tellK n c div ps R = divK (upI c div) (divT div R) := by
  unfold tellK; rw [if_neg (by omega), if_neg (by simp [h2, h3]), if_neg (by simp [h4])]

structure TellSt (w W : World) (pa : Option Addr) (pn pcap : Nat) (div : Int) : Prop where
  s0 : W.cell? ⟨w.heap.size, 0, none⟩ = some (.slice pa pn pcap)
  s1 : W.cell? ⟨w.heap.size, 1, none⟩ = some (.int .i64 div)
  r0 : W.cell? ⟨w.heap.size + 1, 0, none⟩ = some (.int .i64 0)
  r1 : W.cell? ⟨w.heap.size + 1, 1, none⟩ = some (.slice none 0 0)
  rf : ∀ o, W.frozen? ⟨w.heap.size + 1, o, none⟩ = false
  mz : w.heap.size + 1 < W.heap.size
  bel : Below w.heap.size w W
theorem TellSt.below {w W W' : World} {pa : Option Addr} {pn pcap B : Nat} {div : Int} (h : TellSt w W pa pn pcap div) (hb : Below B W W') (hB : w.heap.size + 2 ≤ B) : TellSt w W' pa pn pcap div := by
  have h0 : w.heap.size < B := by omega
  have h1 : w.heap.size + 1 < B := by omega
  exact ⟨(hb.cell (p := ⟨w.heap.size, 0, none⟩) h0).trans h.s0, (hb.cell (p := ⟨w.heap.size, 1, none⟩) h0).trans h.s1, (hb.cell (p := ⟨w.heap.size + 1, 0, none⟩) h1).trans h.r0, (hb.cell (p := ⟨w.heap.size + 1, 1, none⟩) h1).trans h.r1, fun o => (hb.frozen (p := ⟨w.heap.size + 1, o, none⟩) h1).trans (h.rf o), Nat.lt_of_lt_of_le h.mz hb.size, h.bel.trans (hb.mono (by omega))⟩
theorem TellSt.start (w : World) (pa : Option Addr) (pn pcap : Nat) (div : Int) : TellSt w ((w.alloc (.cells #[.slice pa pn pcap, .int .i64 div] 39)).alloc (.cells #[.int .i64 0, .slice none 0 0] 49)) pa pn pcap div := by
  have h0 := heap_alloc_new w (.cells #[.slice pa pn pcap, .int .i64 div] 39)
  have hb := (Below.refl w.heap.size w).alloc (Nat.le_refl _) (.cells #[.slice pa pn pcap, .int .i64 div] 39)
  have hz : (w.alloc (.cells #[.slice pa pn pcap, .int .i64 div] 39)).heap.size = w.heap.size + 1 := by simp
  generalize w.alloc (.cells #[.slice pa pn pcap, .int .i64 div] 39) = w1 at h0 hb hz ⊢
  have h1 := heap_alloc_new w1 (.cells #[.int .i64 0, .slice none 0 0] 49)
  have hb1 := (Below.refl w1.heap.size w1).alloc (Nat.le_refl _) (.cells #[.int .i64 0, .slice none 0 0] 49)
  rw [hz] at h1
  have hlt : w.heap.size < w1.heap.size := by omega
  have hz2 : (w1.alloc (.cells #[.int .i64 0, .slice none 0 0] 49)).heap.size = w1.heap.size + 1 := by simp
  exact ⟨(hb1.cell (p := ⟨w.heap.size, 0, none⟩) hlt).trans (by rw [cell_of_row _ _ _ _ _ _ h0]; rfl), (hb1.cell (p := ⟨w.heap.size, 1, none⟩) hlt).trans (by rw [cell_of_row _ _ _ _ _ _ h0]; rfl),
    by rw [cell_of_row _ _ _ _ _ _ h1]; rfl, by rw [cell_of_row _ _ _ _ _ _ h1]; rfl, fun o => frozen_of_row _ _ _ _ _ h1, by omega, hb.trans (hb1.mono (by omega))⟩
theorem Sums.below {T : List (Int × Int)} {n B B' : Nat} {w w' : World} (h : Sums T n B w) (hb : Below B' w w') (hB : B < B') : Sums T n B w' := by
  obtain ⟨D, ⟨es, clock, h1, F, hs, hD⟩, h2⟩ := h.ex
  exact ⟨D, ⟨es, clock, (hb.block B hB).trans h1, F, hs, hD⟩, h2⟩
theorem LLies.below {B : Nat} {w w' : World} {a : Option Addr} {ls : List (Int × List (Int × Int))} (h : LLies B w a ls) (hb : Below B w w') : LLies B w' a ls := fun i hi => by
  obtain ⟨b, off, ta, tcap, ha, hlt, h1, h2, h3⟩ := h i hi
  exact ⟨b, off, ta, tcap, ha, hlt, (hb.cell (p := ⟨b, _, none⟩) hlt).trans h1, (hb.cell (p := ⟨b, _, none⟩) hlt).trans h2, h3.below hb⟩
theorem LLies.mono {B B' : Nat} {w : World} {a : Option Addr} {ls : List (Int × List (Int × Int))} (h : LLies B w a ls) (hB : B ≤ B') : LLies B' w a ls := fun i hi => by
  obtain ⟨b, off, ta, tcap, ha, hlt, h1, h2, h3⟩ := h i hi
  exact ⟨b, off, ta, tcap, ha, by omega, h1, h2, h3.mono hB⟩
theorem codeV_zero : codeV 0 = .nilIface := rfl
theorem codeV_ne {k : Int} (h : k ≠ 0) : codeV k = .iface 42 (.int .i64 k) := if_neg h
/-- The variables of sound lines are small. -/
theorem tTo_vars {ls : List (Int × List (Int × Int))} {ps : List (Int × Int)} (h : partsOk ls ps) : ∀ k, k ≤ ps.length → ∀ m ∈ tTo ls ps k, 0 ≤ m.1 ∧ m.1 < 1048576
  | 0, _, m, hm => by cases hm
  | k + 1, hk, m, hm => by
    rcases List.mem_append.1 hm with hm | hm
    · exact tTo_vars h k (by omega) m hm
    · obtain ⟨p, hp, rfl⟩ := List.mem_map.1 hm
      obtain ⟨_, _, hs⟩ := h.2 k (by omega)
      obtain ⟨i, hi, rfl⟩ := List.getElem_of_mem hp
      have := okAt_in ((snd_iff.1 hs).2.2 i hi)
      rw [List.getD_eq_getElem?_getD, List.getElem?_eq_getElem hi, Option.getD_some] at this
      exact ⟨this.2.2.1, this.2.2.2.1⟩
end Go.Proofs.YtmjhjacbhflcpaaDoor

namespace Go.Proofs.YtmjhjacbhflcpaaDoor
open Go.RowKit Go.Maps

set_option maxRecDepth 100000 in
set_option maxHeartbeats 4000000 in
theorem tell_any (a : Option Addr) (n cap : Nat) (ls : List (Int × List (Int × Int))) (pa : Option Addr) (pn pcap : Nat) (ps : List (Int × Int)) (div : Int) (w : World) (hn : ls.length = n) (hm : n ≤ 9223372036854775807) (hl : LLies w.heap.size w a ls) (hok : lsOk ls) (hpn : ps.length = pn) (hpm : pn ≤ 9223372036854775807) (hp : Lies w.heap.size w pa ps)
    (R : List (Int × Int)) (hR : R = sumOf (tTo ls ps pn)) (x C : Int) (E : List (Int × Int)) (hx : TellIs n (cTo ls ps pn) div ps R x C E) :
    Calls Tryd.prog 17 #[.slice a n cap, .agg #[.slice pa pn pcap, .int .i64 div]] w (LEnd w.heap.size x C E w) := by
  have T0 := Lib.hid (TellSt.start w pa pn pcap div)
  have HCK := Lib.hid (fun W (hb : Below w.heap.size w W) => ccheck_any n pa pn pcap ps div W hpn hpm ((hp.below hb).mono hb.size))
  have HX := Lib.hid hx
  clear hx
  by_cases hk0 : stepK n ps div = 0
  · rw [hk0, codeV_zero] at HCK
    obtain ⟨hpk, hd1, hd2⟩ := stepK_ok (ls := ls) (by rw [hn]; exact hk0) hok
    have p64 : pn ≤ 64 := by rw [← hpn]; exact hpk.1
    have hc := cTo_in hpk pn (by omega)
    have HTL := Lib.hid (tTo_in hpk pn (by omega))
    have HTV := Lib.hid (tTo_vars hpk pn (by omega))
    have HSM := Lib.hid (fun W (hb : Below w.heap.size w W) => csum_any a n cap ls pa pn pcap ps W hn hm ((hl.below hb).mono hb.size) hpn ((hp.below hb).mono hb.size) hpk)
    have hRS : IsSum (tTo ls ps pn) R := by rw [hR]; exact sumOf_is _
    have hRL : R.length ≤ 4096 := by rw [hR]; have := sumOf_len (tTo ls ps pn); have := HTL.out.1; omega
    have HVB : Hid (∀ m ∈ R, 0 ≤ m.1 ∧ m.1 ≤ 1073741824) := fun m hm => by
      obtain ⟨y, hy, hy2⟩ := hRS.comes hm
      have := HTV.out y hy
      omega
    have hTn : (tTo ls ps pn).length ≤ 65536 := by have := HTL.out.1; omega
    have HRS := Lib.hid hRS
    have HX3 : Hid (wi (cTo ls ps pn) 4398046511104 = false ∨ allIn 4398046511104 R = false → x = 3 ∧ C = 0 ∧ E = []) := fun h => by
      have e := tellK_far hk0 h
      have := HX.out.bad (by rw [e]; decide)
      rwa [e] at this
    have HX7 : Hid (wi (cTo ls ps pn) 4398046511104 = true → allIn 4398046511104 R = true → allDiv div R = false → x = 7 ∧ C = 0 ∧ E = []) := fun h1 h2 h3 => by
      have e := tellK_div hk0 h1 h2 h3
      have := HX.out.bad (by rw [e]; decide)
      rwa [e] at this
    have HX0 : Hid (wi (cTo ls ps pn) 4398046511104 = true → allIn 4398046511104 R = true → allDiv div R = true → DivIs (upI (cTo ls ps pn) div) (divT div R) x C E) := fun h1 h2 h3 => by
      have e := tellK_ok hk0 h1 h2 h3
      exact ⟨fun h => HX.out.ok (by rw [e]; exact h), fun h => by have := HX.out.bad (by rw [e]; exact h); rwa [e] at this⟩
    clear HX hpk hl hp hpn hn hok hR hRS HTL HTV hk0
    generalize cTo ls ps pn = c at hc HSM HX3 HX7 HX0
    generalize tTo ls ps pn = T at HSM hTn HRS
    have CW : Hid (∀ W, Calls Tryd.prog 31 #[.int .i64 c, .int .i64 4398046511104] W fun e w' => e = .returned (.bool (wi c 4398046511104)) ∧ W = w') := fun W => cwithin_any c 4398046511104 W (by omega) (by omega)
    go_enter Tryd.func17, Tryd.ntmps17
    obtain ⟨s0, s1, r0, r1, rf, mz, hbel⟩ := T0.out
    have HB := Lib.hid hbel
    clear hbel r0 r1 rf
    go_wp2_with fail
    clear s0 s1
    refine (HCK.out _ HB.out).mono ?_
    rintro e w2 ⟨rfl, hb2⟩
    have T2 := Lib.hid (T0.out.below hb2 (by omega))
    clear T0 HB mz hb2 HCK
    obtain ⟨s0, s1, r0, r1, rf, mz, hbel⟩ := T2.out
    have HB := Lib.hid hbel
    clear hbel r0 r1 rf s1
    go_wp2_with fail
    refine (HSM.out _ HB.out).mono ?_
    rintro e w3 ⟨rfl, hs3, hb3⟩
    have T3 := Lib.hid (T2.out.below hb3 (by omega))
    have hz3 := hs3.ex.choose_spec.1.lt
    have hST := standing_any T R T.length w2.heap.size w3 hs3 HRS.out hTn
    have HS3 := Lib.hid hs3
    clear T2 HB mz hb3 HSM s0 hs3
    go_wp2_with fail
    refine hST.mono ?_
    rintro e w4 ⟨vv, rfl, hr4, hb4⟩
    have T4 := Lib.hid (T3.out.below hb4 (by have := T3.out.mz; omega))
    have HS4 := Lib.hid (HS3.out.below hb4 hz3)
    obtain ⟨va, vcap, rfl, hnums⟩ := hr4.nums
    rw [List.length_map] at hr4 ⊢
    have HNU := Lib.hid hnums
    clear T3 hb4 HS3 hST hr4 hnums
    generalize w2.heap.size = B at HS4 ⊢
    by_cases hwc : wi c 4398046511104 = true
    · rw [hwc] at CW
      replace HX3 := Lib.hid (fun h => HX3.out (.inr h))
      replace HX7 := Lib.hid (HX7.out hwc)
      replace HX0 := Lib.hid (HX0.out hwc)
      have hwc4 := Lib.hid hwc
      clear hwc
      go_wp2_with fail
      refine (CW.out _).mono ?_
      rintro e w5 ⟨rfl, rfl⟩
      go_wp2_with fail
      clear CW
      go_loopw [38] (fun i wr => ∃ (j : Nat), j ≤ R.length ∧ i = .int .i64 j ∧ Hid (∀ m, m < j → wi (R.getD m (0, 0)).2 4398046511104 = true) ∧ wr = w4) (fun i _ => R.length - (intOf i).toNat)
      case atStart => exact ⟨0, Nat.zero_le _, rfl, fun m hm => absurd hm (Nat.not_lt_zero _), rfl⟩
      case round =>
        obtain ⟨j, hj, rfl, hai, rfl⟩ := hrel
        by_cases hjt : j < R.length
        · obtain ⟨b, off, rfl, hblt, c1⟩ := HNU.out j (by rw [List.length_map]; exact hjt)
          rw [map_getD R j hjt] at c1
          have hmem : R.getD j (0, 0) ∈ R := by rw [List.getD_eq_getElem?_getD, List.getElem?_eq_getElem hjt]; exact List.getElem_mem hjt
          have hvb := HVB.out _ hmem
          obtain ⟨D, hown, hat0⟩ := HS4.out.ex
          have hv0 := hat0 (R.getD j (0, 0)).1
          rw [show coef T (R.getD j (0, 0)).1 = (R.getD j (0, 0)).2 by rw [← HRS.out.eq, coef_up HRS.out.up hmem]] at hv0
          have hkj : wi (R.getD j (0, 0)).2 4398046511104 = true → Hid (∀ m, m < j + 1 → wi (R.getD m (0, 0)).2 4398046511104 = true) := fun h m hm => by
            by_cases e : m = j
            · subst e; exact h
            · exact hai.out m (by omega)
          have hbad : wi (R.getD j (0, 0)).2 4398046511104 = false → Hid (x = 3 ∧ C = 0 ∧ E = []) := fun h => HX3.out (allIn_not hjt h)
          have CJ : Hid (∀ W, Calls Tryd.prog 31 #[.int .i64 (R.getD j (0, 0)).2, .int .i64 4398046511104] W fun e w' => e = .returned (.bool (wi (R.getD j (0, 0)).2 4398046511104)) ∧ W = w') := fun W => cwithin_any _ 4398046511104 W (by omega) (by omega)
          clear hat0 hmem
          generalize (R.getD j (0, 0)).1 = V at c1 hvb hv0
          generalize (R.getD j (0, 0)).2 = K at hkj hbad CJ hv0
          have hkey : keyOf Tryd.prog 3 (.int .i64 V) = some (.int .i64 V) := keyOf_int_mk Tryd.underlying3 (WalkArith.wf_i64 (by omega))
          by_cases hwk : wi K 4398046511104 = true
          · rw [hwk] at CJ
            have HKJ := hkj hwk
            clear hkj hbad
            go_wp2_with (first
              | (at_lookup; refine wpList_lookup_own_int _ rfl _ _ 68 rfl 3 3 .i64 Tryd.lawInt Tryd.underlying68 Tryd.underlying3 (Tryd.zeroInt _) B T.length D rfl hown _ _ rfl hkey ?_; intro c9 hat hwc; obtain rfl : c9 = K := by have h9 := hat.symm.trans hv0; injection h9 with h9; injection h9))
            refine (CJ.out _).mono ?_
            rintro e w5 ⟨rfl, rfl⟩
            go_wp2_with fail
            refine ⟨⟨j + 1, by omega, by go_num, HKJ, trivial⟩, by simp [intOf]; omega⟩
          · rw [Bool.not_eq_true] at hwk
            rw [hwk] at CJ
            obtain ⟨rfl, rfl, rfl⟩ := (hbad hwk).out
            clear hkj hbad
            go_wp2_with (first
              | (at_lookup; refine wpList_lookup_own_int _ rfl _ _ 68 rfl 3 3 .i64 Tryd.lawInt Tryd.underlying68 Tryd.underlying3 (Tryd.zeroInt _) B T.length D rfl hown _ _ rfl hkey ?_; intro c9 hat hwc; obtain rfl : c9 = K := by have h9 := hat.symm.trans hv0; injection h9 with h9; injection h9))
            refine (CJ.out _).mono ?_
            rintro e w5 ⟨rfl, rfl⟩
            obtain ⟨s0, s1, r0, r1, rf, mz, hbel⟩ := T4.out
            obtain ⟨e0, e1⟩ := res2 r0 r1 (.int .i64 0) (.slice none 0 0)
            have HE := Lib.hid (And.intro e0 e1)
            have HBE := Lib.hid hbel
            clear e0 e1 hbel s0 s1
            go_wp2_with fail
            refine bodyPost_ret (v := .tuple #[.agg #[.int .i64 0, .slice none 0 0], .iface 42 (.int .i64 3)]) ?_ rfl (LEnd.none rfl (below2 HBE.out (by omega) _ _))
            obtain ⟨e0, e1⟩ := HE.out
            simp [results, Tryd.results17, go_sem, e0, e1]
        · obtain rfl : j = R.length := by omega
          have hall := allIn_of (M := 4398046511104) (R := R) (fun m hm => hai.out m hm)
          have HAL := Lib.hid hall
          replace HX7 := Lib.hid (HX7.out hall)
          replace HX0 := Lib.hid (HX0.out hall)
          clear hall hai HX3
          obtain ⟨w9, rfl⟩ : ∃ w9 : World, w9 = wr := ⟨_, rfl⟩
          go_wp2_with fail
          go_loopw [52] (fun i wr => ∃ (j : Nat), j ≤ R.length ∧ i = .int .i64 j ∧ Hid (∀ m, m < j → (R.getD m (0, 0)).2.tmod div = 0) ∧ wr = w9) (fun i _ => R.length - (intOf i).toNat)
          case atStart => exact ⟨0, Nat.zero_le _, rfl, fun m hm => absurd hm (Nat.not_lt_zero _), rfl⟩
          case round =>
            obtain ⟨j, hj, rfl, hai, rfl⟩ := hrel
            by_cases hjt : j < R.length
            · obtain ⟨b, off, rfl, hblt, c1⟩ := HNU.out j (by rw [List.length_map]; exact hjt)
              rw [map_getD R j hjt] at c1
              have hmem : R.getD j (0, 0) ∈ R := by rw [List.getD_eq_getElem?_getD, List.getElem?_eq_getElem hjt]; exact List.getElem_mem hjt
              have hvb := HVB.out _ hmem
              have hin := allIn_get HAL.out j hjt
              obtain ⟨D, hown, hat0⟩ := HS4.out.ex
              have hv0 := hat0 (R.getD j (0, 0)).1
              rw [show coef T (R.getD j (0, 0)).1 = (R.getD j (0, 0)).2 by rw [← HRS.out.eq, coef_up HRS.out.up hmem]] at hv0
              have hkj : (R.getD j (0, 0)).2.tmod div = 0 → Hid (∀ m, m < j + 1 → (R.getD m (0, 0)).2.tmod div = 0) := fun h m hm => by
                by_cases e : m = j
                · subst e; exact h
                · exact hai.out m (by omega)
              have hbad : (R.getD j (0, 0)).2.tmod div ≠ 0 → Hid (x = 7 ∧ C = 0 ∧ E = []) := fun h => HX7.out (allDiv_not hjt h)
              clear hat0 hmem
              generalize (R.getD j (0, 0)).1 = V at c1 hvb hv0
              generalize (R.getD j (0, 0)).2 = K at hkj hbad hv0 hin
              have hKb : -4398046511104 ≤ K ∧ K ≤ 4398046511104 := by unfold wi at hin; simpa using hin
              have hd0 : div ≠ 0 := by omega
              have hkey : keyOf Tryd.prog 3 (.int .i64 V) = some (.int .i64 V) := keyOf_int_mk Tryd.underlying3 (WalkArith.wf_i64 (by omega))
              have s1 := T4.out.s1
              by_cases hwk : K.tmod div = 0
              · have HKJ := hkj hwk
                clear hkj hbad
                go_wp2_with (first
                  | (at_lookup; refine wpList_lookup_own_int _ rfl _ _ 68 rfl 3 3 .i64 Tryd.lawInt Tryd.underlying68 Tryd.underlying3 (Tryd.zeroInt _) B T.length D rfl hown _ _ rfl hkey ?_; intro c9 hat hwc; obtain rfl : c9 = K := by have h9 := hat.symm.trans hv0; injection h9 with h9; injection h9))
                refine ⟨⟨j + 1, by omega, by go_num, HKJ, trivial⟩, by simp [intOf]; omega⟩
              · obtain ⟨rfl, rfl, rfl⟩ := (hbad hwk).out
                clear hkj hbad
                obtain ⟨s0, _, r0, r1, rf, mz, hbel⟩ := T4.out
                obtain ⟨e0, e1⟩ := res2 r0 r1 (.int .i64 0) (.slice none 0 0)
                have HE := Lib.hid (And.intro e0 e1)
                have HBE := Lib.hid hbel
                clear e0 e1 hbel s0
                go_wp2_with (first
                  | (at_lookup; refine wpList_lookup_own_int _ rfl _ _ 68 rfl 3 3 .i64 Tryd.lawInt Tryd.underlying68 Tryd.underlying3 (Tryd.zeroInt _) B T.length D rfl hown _ _ rfl hkey ?_; intro c9 hat hwc; obtain rfl : c9 = K := by have h9 := hat.symm.trans hv0; injection h9 with h9; injection h9))
                refine bodyPost_ret (v := .tuple #[.agg #[.int .i64 0, .slice none 0 0], .iface 42 (.int .i64 7)]) ?_ rfl (LEnd.none rfl (below2 HBE.out (by omega) _ _))
                obtain ⟨e0, e1⟩ := HE.out
                simp [results, Tryd.results17, go_sem, e0, e1]
            · obtain rfl : j = R.length := by omega
              have hDI := HX0.out (allDiv_of (fun m hm => hai.out m hm))
              have HDV := Lib.hid (divided_any c div B T.length T R va R.length vcap wr ⟨hd1, hd2⟩ (by have h := hwc4.out; unfold wi at h; simpa using h) HS4.out HRS.out HAL.out rfl HNU.out (by have := hRL; omega) HVB.out x C E hDI)
              have s1 := T4.out.s1
              clear hDI
              go_wp2_with fail
              refine HDV.out.mono ?_
              rintro e w7 ⟨v7, rfl, hr7, hb7⟩
              have T7 := T4.out.below hb7 (by have := T4.out.mz; omega)
              obtain ⟨a7, cap7, rfl, _, _⟩ := hr7.lies
              obtain ⟨s0, _, r0, r1, rf, mz, hbel⟩ := T7
              obtain ⟨e0, e1⟩ := res2 r0 r1 (.int .i64 C) (.slice a7 E.length cap7)
              have HE := Lib.hid (And.intro e0 e1)
              have HBE := Lib.hid hbel
              have HR7 := Lib.hid hr7
              have HMZ := Lib.hid T4.out.mz
              clear e0 e1 hbel s0 hr7 hb7
              go_wp2_with fail
              refine bodyPost_ret (v := .tuple #[.agg #[.int .i64 C, .slice a7 E.length cap7], codeV x]) ?_ rfl ⟨.slice a7 E.length cap7, rfl, Joins.ownsRow_le (HR7.out.set2 HMZ.out _ _) (by have := HMZ.out; omega), below2 HBE.out (by omega) _ _⟩
              obtain ⟨e0, e1⟩ := HE.out
              simp [results, Tryd.results17, go_sem, e0, e1]
    · rw [Bool.not_eq_true] at hwc
      rw [hwc] at CW
      obtain ⟨rfl, rfl, rfl⟩ := HX3.out (.inl hwc)
      obtain ⟨s0, s1, r0, r1, rf, mz, hbel⟩ := T4.out
      obtain ⟨e0, e1⟩ := res2 r0 r1 (.int .i64 0) (.slice none 0 0)
      have HE := Lib.hid (And.intro e0 e1)
      have HBE := Lib.hid hbel
      clear e0 e1 hbel s0 s1
      go_wp2_with fail
      refine (CW.out _).mono ?_
      rintro e w5 ⟨rfl, rfl⟩
      go_wp2_with fail
      refine bodyPost_ret (v := .tuple #[.agg #[.int .i64 0, .slice none 0 0], .iface 42 (.int .i64 3)]) ?_ rfl (LEnd.none rfl (below2 HBE.out (by omega) _ _))
      obtain ⟨e0, e1⟩ := HE.out
      simp [results, Tryd.results17, go_sem, e0, e1]
  · rw [codeV_ne hk0] at HCK
    have hk1 := tellK_step (c := cTo ls ps pn) (R := R) hk0
    obtain ⟨hx0, rfl, rfl⟩ := HX.out.bad (by rw [hk1]; exact hk0)
    rw [hk1] at hx0
    have HXE := Lib.hid hx0
    generalize stepK n ps div = K at HCK hk0 HXE hx0
    clear HX hk1 hl hp hpn hn hok hR
    go_enter Tryd.func17, Tryd.ntmps17
    obtain ⟨s0, s1, r0, r1, rf, mz, hbel⟩ := T0.out
    have HB := Lib.hid hbel
    clear hbel r0 r1 rf
    go_wp2_with fail
    refine (HCK.out _ HB.out).mono ?_
    rintro e w2 ⟨rfl, hb2⟩
    have T2 := Lib.hid (T0.out.below hb2 (by omega))
    clear T0 HB s0 s1 mz hb2 HCK
    obtain ⟨s0, s1, r0, r1, rf, mz, hbel⟩ := T2.out
    obtain ⟨e0, e1⟩ := res2 r0 r1 (.int .i64 0) (.slice none 0 0)
    have HE := Lib.hid (And.intro e0 e1)
    have HBE := Lib.hid hbel
    clear e0 e1 hbel s0 s1
    go_wp2_with fail
    refine bodyPost_ret (v := .tuple #[.agg #[.int .i64 0, .slice none 0 0], .iface 42 (.int .i64 K)]) ?_ rfl (LEnd.none (by rw [HXE.out, codeV_ne hk0]) (below2 HBE.out (by omega) _ _))
    obtain ⟨e0, e1⟩ := HE.out
    simp [results, Tryd.results17, go_sem, e0, e1]
end Go.Proofs.YtmjhjacbhflcpaaDoor
