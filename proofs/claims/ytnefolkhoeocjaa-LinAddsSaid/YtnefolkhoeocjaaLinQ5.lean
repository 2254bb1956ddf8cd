/- The walk of LinSpreads. -/
import Derived.Test.YtnefolkhoeocjaaLinK5
namespace Go.Proofs.Ytnefolkhoeocjaa
open Go.RowKit

/-- The law's two boxes. -/
structure Two (w W : World) (N : Nat) (ca cb : Int) (a b : Option Addr) (na nb capa capb : Nat) : Prop where
  lt : N + 1 < W.heap.size
  lt0 : N < W.heap.size
  a0 : W.cell? ⟨N, 0, none⟩ = some (.int .i64 ca)
  a1 : W.cell? ⟨N, 1, none⟩ = some (.slice a na capa)
  b0 : W.cell? ⟨N + 1, 0, none⟩ = some (.int .i64 cb)
  b1 : W.cell? ⟨N + 1, 1, none⟩ = some (.slice b nb capb)
  bel : Below N w W
theorem Two.below {w W W' : World} {N B : Nat} {ca cb : Int} {a b : Option Addr} {na nb capa capb : Nat} (h : Two w W N ca cb a b na nb capa capb) (hb : Below B W W') (hB : N + 1 < B) : Two w W' N ca cb a b na nb capa capb :=
  ⟨Nat.lt_of_lt_of_le h.lt hb.size, Nat.lt_of_lt_of_le h.lt0 hb.size, (hb.cell (p := ⟨N, 0, none⟩) (show N < B by omega)).trans h.a0, (hb.cell (p := ⟨N, 1, none⟩) (show N < B by omega)).trans h.a1, (hb.cell (p := ⟨N + 1, 0, none⟩) (show N + 1 < B by omega)).trans h.b0, (hb.cell (p := ⟨N + 1, 1, none⟩) (show N + 1 < B by omega)).trans h.b1, h.bel.trans (hb.mono (by omega))⟩
theorem two_start (w : World) (ca cb : Int) (a b : Option Addr) (na nb capa capb : Nat) : Two w ((w.alloc (.cells #[.int .i64 ca, .slice a na capa] 24)).alloc (.cells #[.int .i64 cb, .slice b nb capb] 24)) w.heap.size ca cb a b na nb capa capb :=
  ⟨by simp, by simp; omega, by simp [go_sem], by simp [go_sem], by simp [go_sem], by simp [go_sem], ((Below.refl _ w).alloc (Nat.le_refl _) _).alloc (by simp) _⟩

theorem small_mul {x v : Int} (hx : -256 ≤ x ∧ x ≤ 256) (hv : -1125899906842624 ≤ v ∧ v ≤ 1125899906842624) : -288230376151711744 ≤ x * v ∧ x * v ≤ 288230376151711744 := by
  have h1 : (x * v).natAbs ≤ 256 * 1125899906842624 := by
    rw [Int.natAbs_mul]; exact Nat.mul_le_mul (by omega) (by omega)
  omega
theorem near_mem {l : List (Int × Int)} {zs : List Int} (h : ∀ i, i < l.length → near l zs i = true) : ∀ m ∈ l, wi (valOf zs m.1) 16777216 = true := fun m hm => by
  obtain ⟨i, hi, rfl⟩ := List.getElem_of_mem hm
  have := h i hi
  unfold near at this
  rwa [List.getD_eq_getElem?_getD, List.getElem?_eq_getElem hi] at this
theorem near_sum {x y : Int} {la lb R : List (Int × Int)} {zs : List Int} (hR : IsSum (scale x la ++ scale y lb) R) (ha : ∀ i, i < la.length → near la zs i = true) (hb : ∀ i, i < lb.length → near lb zs i = true) : ∀ i, i < R.length → near R zs i = true := fun i hi => by
  have hmem : R.getD i (0, 0) ∈ R := by rw [List.getD_eq_getElem?_getD, List.getElem?_eq_getElem hi]; simp
  obtain ⟨p, hp, hpe⟩ := hR.comes hmem
  unfold near
  rw [← hpe]
  rcases List.mem_append.1 hp with hp | hp
  · obtain ⟨m, hm, rfl⟩ := List.mem_map.1 hp
    exact near_mem ha m hm
  · obtain ⟨m, hm, rfl⟩ := List.mem_map.1 hp
    exact near_mem hb m hm

set_option maxHeartbeats 4000000 in
theorem linSpreads_any (hup : UpSaid) (ca cb x y : Int) (a b : Option Addr) (na nb capa capb : Nat) (la lb : List (Int × Int)) (a2 : Option Addr) (n2 cap2 : Nat) (zs : List Int) (w : World) (hna : la.length = na) (hnb : lb.length = nb) (hma : na ≤ 9223372036854775807) (hmb : nb ≤ 9223372036854775807) (hn2 : zs.length = n2)
    (hla : Lies w.heap.size w a la) (hlb : Lies w.heap.size w b lb) (hz : Nums w.heap.size w a2 zs) :
    Calls Try.prog 7 #[.agg #[.int .i64 ca, .slice a na capa], .agg #[.int .i64 cb, .slice b nb capb], .int .i64 x, .int .i64 y, .slice a2 n2 cap2] w fun e w' => e = .returned (.bool true) ∧ Below w.heap.size w w' := by
  have T0 := Lib.hid (two_start w ca cb a b na nb capa capb)
  have hva := value_total ca a na capa la a2 n2 cap2 zs w hna hma hn2 hla hz
  have hvb := value_total cb b nb capb lb a2 n2 cap2 zs w hnb hmb hn2 hlb hz
  rcases add_total ca cb x y a b na nb capa capb la lb w hna hnb hma hmb hla hlb with ⟨k, had⟩ | ⟨ha, hb, hx, hy, R, hR, hsR, had⟩
  · obtain ⟨va, xa, hva⟩ : ∃ v x, ∀ W, Below w.heap.size w W → Calls Try.prog 20 #[.agg #[.int .i64 ca, .slice a na capa], .slice a2 n2 cap2] W fun e w' => e = .returned (.tuple #[.int .i64 v, x]) ∧ Below W.heap.size W w' := by
      rcases hva with ⟨k, h⟩ | ⟨_, _, h⟩
      · exact ⟨_, _, h⟩
      · exact ⟨_, _, h⟩
    obtain ⟨vb, xb, hvb⟩ : ∃ v x, ∀ W, Below w.heap.size w W → Calls Try.prog 20 #[.agg #[.int .i64 cb, .slice b nb capb], .slice a2 n2 cap2] W fun e w' => e = .returned (.tuple #[.int .i64 v, x]) ∧ Below W.heap.size W w' := by
      rcases hvb with ⟨k, h⟩ | ⟨_, _, h⟩
      · exact ⟨_, _, h⟩
      · exact ⟨_, _, h⟩
    have HAD := Lib.hid had
    have HVA := Lib.hid hva
    have HVB := Lib.hid hvb
    clear had hva hvb hna hnb hla hlb hz hn2
    go_enter Try.func7, Try.ntmps7
    go_wp2_with fail
    refine (hup _).mono ?_
    rintro e w1 ⟨rfl, hb1⟩
    have T1 := Lib.hid (T0.out.below hb1 T0.out.lt)
    obtain ⟨l1, l10, a10, a11, b10, b11, _⟩ := T1.out
    clear hb1
    go_wp2_with fail
    refine (HAD.out _ T1.out.bel).mono ?_
    rintro e w2 ⟨rfl, hb2⟩
    have T2 := Lib.hid (T1.out.below hb2 T1.out.lt)
    clear hb2 a10 a11 b10 b11 l1 l10
    obtain ⟨l2, l20, a20, a21, b20, b21, _⟩ := T2.out
    go_wp2_with fail
    have T2b := Lib.hid (T2.out.below ((Below.refl _ w2).alloc (Nat.le_refl _) (.cells #[.int .i64 0, .slice none 0 0] 24)) T2.out.lt)
    refine (HVA.out _ T2b.out.bel).mono ?_
    rintro e w3 ⟨rfl, hb3⟩
    have T3 := Lib.hid (T2b.out.below hb3 T2b.out.lt)
    clear hb3 a20 a21 b20 b21 l2 l20
    obtain ⟨l3, l30, a30, a31, b30, b31, _⟩ := T3.out
    go_wp2_with fail
    refine (HVB.out _ T3.out.bel).mono ?_
    rintro e w4 ⟨rfl, hb4⟩
    have T4 := Lib.hid (T3.out.below hb4 T3.out.lt)
    clear hb4 a30 a31 b30 b31 l3 l30
    obtain ⟨l4, l40, a40, a41, b40, b41, _⟩ := T4.out
    go_wp2_with fail
    go_ret
    exact ⟨rfl, T4.out.bel⟩
  · have hva' : ∃ v x, ∀ W, Below w.heap.size w W → Calls Try.prog 20 #[.agg #[.int .i64 cb, .slice b nb capb], .slice a2 n2 cap2] W fun e w' => e = .returned (.tuple #[.int .i64 v, x]) ∧ Below W.heap.size W w' := by
      rcases hvb with ⟨k, h⟩ | ⟨_, _, h⟩
      · exact ⟨_, _, h⟩
      · exact ⟨_, _, h⟩
    rcases hva with ⟨ka, hva⟩ | ⟨_, hna1, hva⟩
    · obtain ⟨vb, xb, hvb⟩ := hva'
      clear hna hnb hla hlb hz hn2
      have HAD := Lib.hid had
      have HVA := Lib.hid hva
      have HVB := Lib.hid hvb
      clear had hva hvb
      go_enter Try.func7, Try.ntmps7
      go_wp2_with fail
      refine (hup _).mono ?_
      rintro e w1 ⟨rfl, hb1⟩
      have T1 := Lib.hid (T0.out.below hb1 T0.out.lt)
      obtain ⟨l1, l10, a10, a11, b10, b11, _⟩ := T1.out
      clear hb1
      go_wp2_with fail
      refine (HAD.out _ T1.out.bel).mono ?_
      rintro e w2 ⟨v2, rfl, hrow2, hb2⟩
      obtain ⟨ar, capr, rfl, hlr, _⟩ := hrow2.lies
      have HRow := Lib.hid hlr
      clear hrow2 hlr
      have T2 := Lib.hid (T1.out.below hb2 T1.out.lt)
      clear hb2 a10 a11 b10 b11 l1 l10
      obtain ⟨l2, l20, a20, a21, b20, b21, _⟩ := T2.out
      go_wp2_with fail
      have T2b := Lib.hid (T2.out.below ((Below.refl _ w2).alloc (Nat.le_refl _) (.cells #[.int .i64 (x * ca + y * cb), .slice ar R.length capr] 24)) T2.out.lt)
      refine (HVA.out _ T2b.out.bel).mono ?_
      rintro e w3 ⟨rfl, hb3⟩
      have T3 := Lib.hid (T2b.out.below hb3 T2b.out.lt)
      clear hb3 a20 a21 b20 b21 l2 l20
      obtain ⟨l3, l30, a30, a31, b30, b31, _⟩ := T3.out
      go_wp2_with fail
      refine (HVB.out _ T3.out.bel).mono ?_
      rintro e w4 ⟨rfl, hb4⟩
      have T4 := Lib.hid (T3.out.below hb4 T3.out.lt)
      clear hb4 a30 a31 b30 b31 l3 l30
      obtain ⟨l4, l40, a40, a41, b40, b41, _⟩ := T4.out
      go_wp2_with fail
      go_ret
      exact ⟨rfl, T4.out.bel⟩
    · clear hva'
      rcases hvb with ⟨kb, hvb⟩ | ⟨_, hnb1, hvb⟩
      · clear hna hnb hla hlb hz hn2 hna1
        have HAD := Lib.hid had
        have HVA := Lib.hid hva
        have HVB := Lib.hid hvb
        clear had hva hvb
        go_enter Try.func7, Try.ntmps7
        go_wp2_with fail
        refine (hup _).mono ?_
        rintro e w1 ⟨rfl, hb1⟩
        have T1 := Lib.hid (T0.out.below hb1 T0.out.lt)
        obtain ⟨l1, l10, a10, a11, b10, b11, _⟩ := T1.out
        clear hb1
        go_wp2_with fail
        refine (HAD.out _ T1.out.bel).mono ?_
        rintro e w2 ⟨v2, rfl, hrow2, hb2⟩
        obtain ⟨ar, capr, rfl, hlr, _⟩ := hrow2.lies
        have HRow := Lib.hid hlr
        clear hrow2 hlr
        have T2 := Lib.hid (T1.out.below hb2 T1.out.lt)
        clear hb2 a10 a11 b10 b11 l1 l10
        obtain ⟨l2, l20, a20, a21, b20, b21, _⟩ := T2.out
        go_wp2_with fail
        have T2b := Lib.hid (T2.out.below ((Below.refl _ w2).alloc (Nat.le_refl _) (.cells #[.int .i64 (x * ca + y * cb), .slice ar R.length capr] 24)) T2.out.lt)
        refine (HVA.out _ T2b.out.bel).mono ?_
        rintro e w3 ⟨rfl, hb3⟩
        have T3 := Lib.hid (T2b.out.below hb3 T2b.out.lt)
        clear hb3 a20 a21 b20 b21 l2 l20
        obtain ⟨l3, l30, a30, a31, b30, b31, _⟩ := T3.out
        go_wp2_with fail
        refine (HVB.out _ T3.out.bel).mono ?_
        rintro e w4 ⟨rfl, hb4⟩
        have T4 := Lib.hid (T3.out.below hb4 T3.out.lt)
        clear hb4 a30 a31 b30 b31 l3 l30
        obtain ⟨l4, l40, a40, a41, b40, b41, _⟩ := T4.out
        go_wp2_with fail
        go_ret
        exact ⟨rfl, T4.out.bel⟩
      · have hR' : ∀ i, i < R.length → near R zs i = true := near_sum hR (fun i hi => hna1 i (by omega)) (fun i hi => hnb1 i (by omega))
        have hlin : sAt (x * ca + y * cb) R zs R.length = x * sAt ca la zs na + y * sAt cb lb zs nb := by
          subst hna hnb
          rw [sAt_evl _ _ _ _ (Nat.le_refl _), sAt_evl _ _ _ _ (Nat.le_refl _), sAt_evl _ _ _ _ (Nat.le_refl _), List.take_length, List.take_length, List.take_length, hR.evl, evl_append, evl_scale, evl_scale, Int.mul_add, Int.mul_add]
          omega
        have hvr := fun (ar : Option Addr) (capr : Nat) (W : World) (hlr : Lies W.heap.size W ar R) (hb : Below w.heap.size w W) => value_ok (x * ca + y * cb) ar R.length capr R a2 n2 cap2 zs W rfl hn2 hlr ((hz.below hb).mono hb.size) hsR hR'
        rw [hlin] at hvr
        generalize sAt ca la zs na = va at hva hvr
        generalize sAt cb lb zs nb = vb at hvb hvr
        have HVR := Lib.hid hvr
        clear hna hnb hla hlb hz hn2 hna1 hnb1 hR' hlin hvr hR hsR ha hb
        have HAD := Lib.hid had
        have HVA := Lib.hid hva
        have HVB := Lib.hid hvb
        clear had hva hvb
        go_enter Try.func7, Try.ntmps7
        go_wp2_with fail
        refine (hup _).mono ?_
        rintro e w1 ⟨rfl, hb1⟩
        have T1 := Lib.hid (T0.out.below hb1 T0.out.lt)
        obtain ⟨l1, l10, a10, a11, b10, b11, _⟩ := T1.out
        clear hb1
        go_wp2_with fail
        refine (HAD.out _ T1.out.bel).mono ?_
        rintro e w2 ⟨v2, rfl, hrow2, hb2⟩
        obtain ⟨ar, capr, rfl, hlr, _⟩ := hrow2.lies
        have HRow := Lib.hid hlr
        clear hrow2 hlr
        have T2 := Lib.hid (T1.out.below hb2 T1.out.lt)
        clear hb2 a10 a11 b10 b11 l1 l10
        obtain ⟨l2, l20, a20, a21, b20, b21, _⟩ := T2.out
        go_wp2_with fail
        have T2b := Lib.hid (T2.out.below ((Below.refl _ w2).alloc (Nat.le_refl _) (.cells #[.int .i64 (x * ca + y * cb), .slice ar R.length capr] 24)) T2.out.lt)
        refine (HVA.out _ T2b.out.bel).mono ?_
        rintro e w3 ⟨rfl, hb3⟩
        have T3 := Lib.hid (T2b.out.below hb3 T2b.out.lt)
        have q30 : w3.cell? ⟨w2.heap.size, 0, none⟩ = some (.int .i64 (x * ca + y * cb)) := by rw [hb3.cell (p := ⟨w2.heap.size, 0, none⟩) (by simp)]; simp
        have q31 : w3.cell? ⟨w2.heap.size, 1, none⟩ = some (.slice ar R.length capr) := by rw [hb3.cell (p := ⟨w2.heap.size, 1, none⟩) (by simp)]; simp
        have hz3 : w2.heap.size < w3.heap.size := by have := hb3.size; simp at this; omega
        have R3 : Hid (Lies w2.heap.size w3 ar R) := HRow.out.below (((Below.refl _ w2).alloc (Nat.le_refl _) _).trans (hb3.mono (by simp)))
        clear hb3 a20 a21 b20 b21 l2 l20
        obtain ⟨l3, l30, a30, a31, b30, b31, _⟩ := T3.out
        go_wp2_with fail
        refine (HVB.out _ T3.out.bel).mono ?_
        rintro e w4 ⟨rfl, hb4⟩
        have T4 := Lib.hid (T3.out.below hb4 T3.out.lt)
        have q40 : w4.cell? ⟨w2.heap.size, 0, none⟩ = some (.int .i64 (x * ca + y * cb)) := by rw [hb4.cell (p := ⟨w2.heap.size, 0, none⟩) hz3]; exact q30
        have q41 : w4.cell? ⟨w2.heap.size, 1, none⟩ = some (.slice ar R.length capr) := by rw [hb4.cell (p := ⟨w2.heap.size, 1, none⟩) hz3]; exact q31
        have hz4 : w2.heap.size < w4.heap.size := by have := hb4.size; omega
        have R4 : Hid (Lies w4.heap.size w4 ar R) := (R3.out.below (hb4.mono (Nat.le_of_lt hz3))).mono (Nat.le_of_lt hz4)
        clear q30 q31 hb4 a30 a31 b30 b31 l3 l30
        obtain ⟨l4, l40, a40, a41, b40, b41, _⟩ := T4.out
        go_wp2_with fail
        refine (HVR.out ar capr _ R4.out T4.out.bel).mono ?_
        rintro e w5 ⟨rfl, hb5⟩
        have B5 := Lib.hid (T4.out.bel.trans (hb5.mono (Nat.le_of_lt l40)))
        clear hb5 q40 q41 a40 a41 b40 b41
        by_cases t1 : 256 < x
        · go_wp2_with fail
          go_ret
          exact ⟨rfl, B5.out⟩
        by_cases t2 : x < -256
        · go_wp2_with fail
          go_ret
          exact ⟨rfl, B5.out⟩
        by_cases t3 : 256 < y
        · go_wp2_with fail
          go_ret
          exact ⟨rfl, B5.out⟩
        by_cases t4 : y < -256
        · go_wp2_with fail
          go_ret
          exact ⟨rfl, B5.out⟩
        by_cases t5 : 1125899906842624 < va
        · go_wp2_with fail
          go_ret
          exact ⟨rfl, B5.out⟩
        by_cases t6 : va < -1125899906842624
        · go_wp2_with fail
          go_ret
          exact ⟨rfl, B5.out⟩
        by_cases t7 : 1125899906842624 < vb
        · go_wp2_with fail
          go_ret
          exact ⟨rfl, B5.out⟩
        by_cases t8 : vb < -1125899906842624
        · go_wp2_with fail
          go_ret
          exact ⟨rfl, B5.out⟩
        have m1 := small_mul (x := x) (v := va) (by omega) (by omega)
        have m2 := small_mul (x := y) (v := vb) (by omega) (by omega)
        go_wp2_with fail
        go_ret
        exact ⟨ret_bool (by simp), B5.out⟩
end Go.Proofs.Ytnefolkhoeocjaa
