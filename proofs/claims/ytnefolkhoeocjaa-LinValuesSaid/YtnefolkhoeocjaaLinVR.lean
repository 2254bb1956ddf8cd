/- The document's own Value; lin.Same. -/
import Derived.Test.YtnefolkhoeocjaaLinV
import Derived.Test.YtnefolkhoeocjaaLinT
namespace Go.Proofs.Ytnefolkhoeocjaa
open Go.RowKit

set_option maxHeartbeats 400000 in
theorem of_any (v : Int) (a : Option Addr) (n cap : Nat) (zs : List Int) (w : World) (hn : zs.length = n) (hm : n ≤ 9223372036854775807) (hv : 0 ≤ v) (hz : Nums w.heap.size w a zs) :
    Calls Try.prog 36 #[.slice a n cap, .int .i64 v] w fun e w' => e = .returned (.int .i64 (valOf zs v)) ∧ w = w' := by
  by_cases hlt : v < n
  · obtain ⟨i, rfl⟩ := Int.eq_ofNat_of_zero_le hv
    obtain ⟨b, off, rfl, hb, hc⟩ := hz i (by omega)
    have hx2 : valOf zs (i : Int) = zs.getD i 0 := by unfold valOf; rw [if_pos (by omega)]; simp
    rw [hx2]
    generalize zs.getD i 0 = x at hc ⊢
    clear hz hn hx2
    go_enter Try.func36, Try.ntmps36
    go_wp2
    go_ret
    exact ⟨rfl, rfl⟩
  · have hx2 : valOf zs v = 0 := by unfold valOf; rw [if_neg (by omega)]
    rw [hx2]
    clear hz hn hx2
    go_enter Try.func36, Try.ntmps36
    go_wp2
    go_ret
    exact ⟨rfl, rfl⟩

theorem sAt_eq (c : Int) (l : List (Int × Int)) (zs : List Int) (k : Nat) : sAt c l zs (k + 1) = sAt c l zs k + valOf zs (l.getD k (0, 0)).1 * (l.getD k (0, 0)).2 := by
  show sAt c l zs k + _ * _ = _
  rw [Int.mul_comm]

set_option maxHeartbeats 1000000 in
theorem rvalue_form (c : Int) (a : Option Addr) (n cap : Nat) (l : List (Int × Int)) (a2 : Option Addr) (n2 cap2 : Nat) (w : World) (hn : l.length = n) (hm : n ≤ 9223372036854775807) (hl : Lies w.heap.size w a l) (hs : snd c l = false) :
    Calls Try.prog 21 #[.agg #[.int .i64 c, .slice a n cap], .slice a2 n2 cap2] w fun e w' => e = .returned (.tuple #[.int .i64 0, .int .i64 5]) ∧ Below w.heap.size w w' := by
  have hb0 : Below w.heap.size w (w.alloc (.cells #[.int .i64 c, .slice a n cap] 24)) := (Below.refl _ w).alloc (Nat.le_refl _) _
  have hck := rcheck_any c a n cap l _ hn hm ((hl.below hb0).mono hb0.size)
  rw [hs] at hck
  have HB := Lib.hid hb0
  clear hn hs hl hb0
  go_enter Try.func21, Try.ntmps21
  go_wp2_with (go_at_call 11; refine hck.mono ?_; rintro e w1 ⟨rfl, hb1⟩)
  go_ret2
  exact ⟨rfl, HB.out.trans (hb1.mono (by simp))⟩

theorem val_mul {x k : Int} (hx : -16777216 ≤ x ∧ x ≤ 16777216) (hk : -1073741824 ≤ k ∧ k ≤ 1073741824) : -18014398509481984 ≤ x * k ∧ x * k ≤ 18014398509481984 := by
  have h1 : (x * k).natAbs ≤ 16777216 * 1073741824 := by
    rw [Int.natAbs_mul]; exact Nat.mul_le_mul (by omega) (by omega)
  omega

set_option maxHeartbeats 1600000 in
theorem rvalue_any (c : Int) (a : Option Addr) (n cap : Nat) (l : List (Int × Int)) (a2 : Option Addr) (n2 cap2 : Nat) (zs : List Int) (w : World) (hn : l.length = n) (hn2 : zs.length = n2) (hm2 : n2 ≤ 9223372036854775807) (hl : Lies w.heap.size w a l) (hz : Nums w.heap.size w a2 zs) (hs : snd c l = true)
    (v r : Int) (hr : (v = sAt c l zs n ∧ r = 0 ∧ ∀ i, i < n → near l zs i = true) ∨ (v = 0 ∧ r = 1 ∧ ¬ ∀ i, i < n → near l zs i = true)) :
    Calls Try.prog 21 #[.agg #[.int .i64 c, .slice a n cap], .slice a2 n2 cap2] w fun e w' => e = .returned (.tuple #[.int .i64 v, .int .i64 r]) ∧ Below w.heap.size w w' := by
  obtain ⟨hwc, h64, hall⟩ := snd_iff.1 hs
  have hcb : -1073741824 ≤ c ∧ c ≤ 1073741824 := by unfold wi at hwc; simpa using hwc
  have hb0 : Below w.heap.size w (w.alloc (.cells #[.int .i64 c, .slice a n cap] 24)) := (Below.refl _ w).alloc (Nat.le_refl _) _
  have hck := rcheck_any c a n cap l _ hn (by omega) ((hl.below hb0).mono hb0.size)
  rw [hs] at hck
  have hn64 : n ≤ 64 := by omega
  have HB := Lib.hid hb0
  have HN := Lib.hid hn
  have HN2 := Lib.hid hn2
  have HL := Lib.hid hl
  have HZ := Lib.hid hz
  have HR := Lib.hid hr
  have HK := Lib.hid (fun j (hj : j < n) => okAt_in (hall j (by omega)))
  have HSI := Lib.hid (fun k (hk : k ≤ n) hx => sAt_in c l zs hcb k (by omega) (fun j hj => (okAt_in (hall j (by omega))).2.2.2.2) hx)
  clear hn hn2 hl hz hr hall hwc hb0 hs h64 hcb
  go_enter Try.func21, Try.ntmps21
  go_wp2_with (go_at_call 11; refine hck.mono ?_; rintro e w1 ⟨rfl, hb1⟩; obtain ⟨hc1, hf1⟩ := bcell hb1; have hz1 : w.heap.size < w1.heap.size := (by have := hb1.size; simp at this; omega))
  have B1 := Lib.hid (HB.out.trans (hb1.mono (by simp)))
  have a0 : w1.cell? ⟨w.heap.size, 1, none⟩ = some (.slice a n cap) := by rw [hc1 _ _ (by simp)]; simp
  clear hc1 hf1 hb1 hck
  go_loop [7, 8, 9] (fun s i _ => ∃ k : Nat, k ≤ n ∧ i = .int .i64 k ∧ s = .int .i64 (sAt c l zs k) ∧ Hid (∀ j, j < k → near l zs j = true)) (fun _ i _ => n - (intOf i).toNat)
  case atStart => exact ⟨0, Nat.zero_le _, rfl, rfl, fun j hj => absurd hj (Nat.not_lt_zero j)⟩
  case round =>
    obtain ⟨k, hk, rfl, rfl, hok⟩ := hrel
    by_cases hlt : k < n
    · obtain ⟨b, off, rfl, hblt, c1, c2⟩ := (HL.out.below B1.out) k (by rw [HN.out]; exact hlt)
      have hkk := HK.out k hlt
      have hof := of_any (l.getD k (0, 0)).1 a2 n2 cap2 zs w1 HN2.out hm2 hkk.2.2.1 ((HZ.out.below B1.out).mono B1.out.size)
      have hss := HSI.out k hk (fun j hj => hok.out j hj)
      have hst := sAt_eq c l zs k
      by_cases hx : near l zs k = true
      · have hok2 : Hid (∀ j, j < k + 1 → near l zs j = true) := fun j hj => by
          by_cases ej : j = k
          · rw [ej]; exact hx
          · exact hok.out j (by omega)
        have hxb : -16777216 ≤ valOf zs (l.getD k (0, 0)).1 ∧ valOf zs (l.getD k (0, 0)).1 ≤ 16777216 := by unfold near wi at hx; simpa using hx
        have hm := val_mul hxb hkk.2.2.2.2
        have HST := Lib.hid hst
        clear hst hx hkk
        generalize hX : valOf zs (l.getD k (0, 0)).1 = X at hof hxb hm HST
        generalize (l.getD k (0, 0)).1 = v at c1 hof
        generalize (l.getD k (0, 0)).2 = u at c2 hm HST
        generalize hS : sAt c l zs k = S at hss HST
        clear hX hS
        go_wp2_with (go_at_call 36; refine hof.mono ?_; rintro e w' ⟨rfl, rfl⟩)
        go_round
        case rel => exact ⟨k + 1, by omega, by go_num, by rw [HST.out], hok2⟩
        case measure => simp [intOf]; omega
      · have HF : Hid (v = 0 ∧ r = 1) := by
          rcases HR.out with ⟨_, _, h3⟩ | ⟨h1, h2, _⟩
          · exact absurd (h3 k hlt) hx
          · exact ⟨h1, h2⟩
        have hxb : ¬ (-16777216 ≤ valOf zs (l.getD k (0, 0)).1 ∧ valOf zs (l.getD k (0, 0)).1 ≤ 16777216) := fun h => hx (by unfold near; exact wi_t h)
        clear hst hx hkk
        generalize hX : valOf zs (l.getD k (0, 0)).1 = X at hof hxb
        generalize (l.getD k (0, 0)).1 = v at c1 hof
        clear hX
        obtain ⟨rfl, rfl⟩ := HF.out
        by_cases hlo : X < -16777216
        · go_wp2_with (go_at_call 36; refine hof.mono ?_; rintro e w' ⟨rfl, rfl⟩)
          go_ret2
          exact ⟨rfl, B1.out⟩
        · have hhi : 16777216 < X := by omega
          go_wp2_with (go_at_call 36; refine hof.mono ?_; rintro e w' ⟨rfl, rfl⟩)
          go_ret2
          exact ⟨rfl, B1.out⟩
    · have hkn : n = k := by omega
      have HF : Hid (v = sAt c l zs k ∧ r = 0) := by
        rcases HR.out with ⟨h1, h2, _⟩ | ⟨_, _, h3⟩
        · rw [hkn] at h1; exact ⟨h1, h2⟩
        · exact absurd (fun i hi => hok.out i (by omega)) h3
      clear hkn HR
      obtain ⟨rfl, rfl⟩ := HF.out
      clear HF
      go_wp2
      go_ret2
      exact ⟨rfl, B1.out⟩

set_option maxHeartbeats 1000000 in
theorem equal_any (a b : Option Addr) (na nb capa capb : Nat) (l m : List (Int × Int)) (w : World) (hna : l.length = na) (hnb : m.length = nb) (hma : na ≤ 9223372036854775807) (hmb : nb ≤ 9223372036854775807) (hla : Lies w.heap.size w a l) (hlb : Lies w.heap.size w b m) :
    Calls Try.prog 37 #[.slice a na capa, .slice b nb capb] w fun e w' => e = .returned (.bool (decide (l = m))) ∧ Below w.heap.size w w' := by
  by_cases hnn : na = nb
  · subst hnn
    have hnn' : ((na : Int) != (na : Int)) = false := by simp
    have HS : Hid (∀ r, (r = true ↔ ∀ i, i < na → l.getD i (0, 0) = m.getD i (0, 0)) → decide (l = m) = r) := fun r hr => by
      rw [Bool.eq_iff_iff, hr]
      simp only [decide_eq_true_eq]
      exact ⟨fun h i _ => by rw [h], fun h => list_eq_of (by omega) (fun i hi => h i (by omega))⟩
    have HNA := Lib.hid hna
    have HNB := Lib.hid hnb
    have HLA := Lib.hid hla
    have HLB := Lib.hid hlb
    clear hna hnb hla hlb
    generalize decide (l = m) = res at HS ⊢
    go_enter Try.func37, Try.ntmps37
    go_wp2
    go_loopw [5, 13] (fun _ i wr => ∃ k : Nat, k ≤ na ∧ i = .int .i64 k ∧ Hid (∀ j, j < k → l.getD j (0, 0) = m.getD j (0, 0)) ∧ Hid (∃ q, wr = w.drewN q)) (fun _ i _ => na - (intOf i).toNat)
    case atStart => exact ⟨0, Nat.zero_le _, rfl, fun j hj => absurd hj (Nat.not_lt_zero j), 0, rfl⟩
    case round =>
      obtain ⟨k, hk, rfl, hok, hw⟩ := hrel
      obtain ⟨q, hw⟩ := hw.out
      subst hw
      by_cases hlt : k < na
      · obtain ⟨ab, aoff, rfl, hab, a1, a2⟩ := HLA.out k (by rw [HNA.out]; exact hlt)
        obtain ⟨bb, boff, rfl, hbb, b1, b2⟩ := HLB.out k (by rw [HNB.out]; exact hlt)
        by_cases e : l.getD k (0, 0) = m.getD k (0, 0)
        · have hok2 : Hid (∀ j, j < k + 1 → l.getD j (0, 0) = m.getD j (0, 0)) := fun j hj => by
            by_cases ej : j = k
            · rw [ej]; exact e
            · exact hok.out j (by omega)
          rw [← e] at b1 b2
          generalize l.getD k (0, 0) = p at a1 a2 b1 b2 e
          obtain ⟨v, u⟩ := p
          clear e
          have hne : ∀ W, (binOp .neq 50 (.agg #[.int .i64 v, .int .i64 u]) (.agg #[.int .i64 v, .int .i64 u])).run Try.prog W = .ok (.bool false) W := fun W => by rw [Try.neMono]; simp
          go_wp2_with fail
          go_quiet (fail)
          go_wp2
          go_roundw
          case rel => exact ⟨k + 1, by omega, by go_num, hok2, ⟨_, rfl⟩⟩
          case measure => simp [intOf]; omega
        · have hF := Lib.hid (HS.out false ⟨fun h => absurd h (by decide), fun h => absurd (h k hlt) e⟩)
          generalize l.getD k (0, 0) = p at a1 a2 e
          generalize m.getD k (0, 0) = p' at b1 b2 e
          obtain ⟨v, u⟩ := p
          obtain ⟨v', u'⟩ := p'
          have hne : ∀ W, (binOp .neq 50 (.agg #[.int .i64 v, .int .i64 u]) (.agg #[.int .i64 v', .int .i64 u'])).run Try.prog W = .ok (.bool true) W := fun W => by
            rw [Try.neMono]
            have : (v == v' && u == u') = false := by
              rw [Bool.eq_false_iff]
              intro h
              simp only [Bool.and_eq_true, beq_iff_eq] at h
              exact e (by rw [h.1, h.2])
            rw [this]; rfl
          clear e
          go_wp2_with fail
          go_quiet (fail)
          go_wp2
          go_ret
          exact ⟨ret_bool hF.out.symm, below_drewN (below_drewN (Below.refl _ w) q) nq⟩
      · have HF := Lib.hid (HS.out true ⟨fun _ i hi => hok.out i (by omega), fun _ => rfl⟩)
        go_wp2
        go_ret
        exact ⟨ret_bool HF.out.symm, below_drewN (Below.refl _ w) q⟩
  · have hnn' : ((na : Int) != (nb : Int)) = true := by simp; omega
    have HS : Hid (decide (l = m) = false) := by
      show _ = _
      rw [decide_eq_false (fun h => by subst h; omega)]
    clear hna hnb hla hlb
    generalize decide (l = m) = res at HS ⊢
    go_enter Try.func37, Try.ntmps37
    go_wp2
    go_ret
    exact ⟨ret_bool HS.out.symm, Below.refl _ _⟩

set_option maxHeartbeats 1000000 in
theorem lsame_any (c d : Int) (a b : Option Addr) (na nb capa capb : Nat) (l m : List (Int × Int)) (w : World) (hna : l.length = na) (hnb : m.length = nb) (hma : na ≤ 9223372036854775807) (hmb : nb ≤ 9223372036854775807) (hla : Lies w.heap.size w a l) (hlb : Lies w.heap.size w b m) :
    Calls Try.prog 22 #[.agg #[.int .i64 c, .slice a na capa], .agg #[.int .i64 d, .slice b nb capb]] w fun e w' => e = .returned (.bool (same c d l m)) ∧ Below w.heap.size w w' := by
  have HB0 : Below w.heap.size w ((w.alloc (.cells #[.int .i64 c, .slice a na capa] 24)).alloc (.cells #[.int .i64 d, .slice b nb capb] 24)) := ((Below.refl _ w).alloc (Nat.le_refl _) _).alloc (by simp) _
  have heq := equal_any a b na nb capa capb l m _ hna hnb hma hmb ((hla.below HB0).mono HB0.size) ((hlb.below HB0).mono HB0.size)
  have HB := Lib.hid HB0
  by_cases hcd : c = d
  · subst hcd
    have hcc : (c == c) = true := by simp
    have HS : Hid (same c c l m = decide (l = m)) := by show _ = _; unfold same; rw [decide_eq_true rfl, Bool.true_and]
    generalize decide (l = m) = res at HS heq
    clear hna hnb hla hlb HB0
    go_enter Try.func22, Try.ntmps22
    go_wp2_with (go_at_call 37; refine heq.mono ?_; rintro e w1 ⟨rfl, hb1⟩)
    go_ret
    exact ⟨ret_bool HS.out.symm, HB.out.trans (hb1.mono (by simp; omega))⟩
  · have hcc : (c == d) = false := by simpa using hcd
    have HS : Hid (same c d l m = false) := by show _ = _; unfold same; rw [decide_eq_false hcd]; rfl
    clear hna hnb hla hlb HB0 heq
    go_enter Try.func22, Try.ntmps22
    go_wp2_with fail
    go_ret
    exact ⟨ret_bool HS.out.symm, HB.out⟩
end Go.Proofs.Ytnefolkhoeocjaa
