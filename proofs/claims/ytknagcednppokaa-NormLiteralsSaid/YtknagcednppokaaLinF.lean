/- The contracts of the document's own Gcd and Check. -/
import Derived.Test.YtknagcednppokaaLinE
namespace Go.Proofs.Ytknagcednppokaa
open Go.RowKit

set_option maxHeartbeats 800000 in
theorem rgcd_any (c : Int) (a : Option Addr) (n cap : Nat) (l : List (Int × Int)) (w : World) (hn : l.length = n) (hm : n ≤ 64) (hl : Lies w.heap.size w a l)
    (hk : ∀ j, j < n → -1073741824 ≤ (l.getD j (0, 0)).2 ∧ (l.getD j (0, 0)).2 ≤ 1073741824) :
    Calls Try.prog 29 #[.agg #[.int .i64 c, .slice a n cap]] w fun e w' => e = .returned (.int .i64 (gAt l n)) ∧ Below w.heap.size w w' := by
  have HL := Lib.hid hl
  have HN := Lib.hid hn
  have HK := Lib.hid hk
  clear hn hl hk
  go_enter Try.func29, Try.ntmps29
  go_wp2
  go_loop [3, 4] (fun g i => ∃ k : Nat, k ≤ n ∧ i = .int .i64 k ∧ g = .int .i64 (gAt l k)) (fun _ i => n - (intOf i).toNat)
  case atStart => exact ⟨0, Nat.zero_le _, rfl, rfl⟩
  case round =>
    obtain ⟨k, hk, rfl, rfl⟩ := hrel
    by_cases hlt : k < n
    · obtain ⟨b, off, rfl, hblt, c1, c2⟩ := HL.out k (by rw [HN.out]; exact hlt)
      have hg := gAt_in l k (fun j hj => HK.out j (by omega))
      have hkk := HK.out k hlt
      have hst : gAt l (k + 1) = (Nat.gcd (gAt l k).natAbs (l.getD k (0, 0)).2.natAbs : Nat) := rfl
      have htw := fun W => two_any _ (gAt l k) (l.getD k (0, 0)).2 (gAt l (k + 1)) W (Nat.le_refl _) (by omega) hg.2 hkk.1 hkk.2 hst
      have HR : Hid (∃ g1, g1 = gAt l (k + 1)) := ⟨_, rfl⟩
      obtain ⟨g1, hg1⟩ := HR.out
      rw [← hg1] at htw
      generalize hg0 : gAt l k = g0 at htw hg
      generalize (l.getD k (0, 0)).2 = u at htw c2
      have HG1 := Lib.hid hg1
      clear hg1 hst c1 hkk HR
      go_wp2_with (go_at_call 53; refine (htw _).mono ?_; rintro e w' ⟨rfl, rfl⟩)
      go_round
      case rel => exact ⟨k + 1, by omega, by go_num, by rw [HG1.out]⟩
      case measure => simp [intOf]; omega
    · go_wp2
      go_ret
      exact ⟨ret_int (by rw [show n = k by omega]), (Below.refl _ w).alloc (Nat.le_refl _) _⟩

/-- One round of the document's Check: a term that is sound. -/
theorem okAt_mk {l : List (Int × Int)} {i : Nat} (h : lastAt l i < (l.getD i (0, 0)).1 ∧ (l.getD i (0, 0)).2 ≠ 0 ∧ 0 ≤ (l.getD i (0, 0)).1 ∧ (l.getD i (0, 0)).1 < 1048576 ∧ -1073741824 ≤ (l.getD i (0, 0)).2 ∧ (l.getD i (0, 0)).2 ≤ 1073741824) : okAt l i = true := by
  unfold okAt chk mst wi
  simp only [Bool.and_eq_true, decide_eq_true_eq]
  exact ⟨h.1, h.2.1, ⟨h.2.2.1, h.2.2.2.1⟩, h.2.2.2.2⟩

theorem coef_same (n : Int) (w : World) : Calls Try.prog 32 #[.int .i64 n] w fun e w' => e = .returned (.bool (wi n 1073741824)) ∧ w' = w :=
  (coef_any n w).mono fun _ _ ⟨he, hw⟩ => ⟨he, hw.symm⟩

set_option maxHeartbeats 1600000 in
theorem rcheck_any (c : Int) (a : Option Addr) (n cap : Nat) (l : List (Int × Int)) (w : World) (hn : l.length = n) (hm : n ≤ 9223372036854775807) (hl : Lies w.heap.size w a l) :
    Calls Try.prog 28 #[.agg #[.int .i64 c, .slice a n cap]] w fun e w' => e = .returned (.bool (snd c l)) ∧ Below w.heap.size w w' := by
  have hco := fun W => coef_any c W
  by_cases hc : wi c 1073741824 = true
  · rw [hc] at hco
    by_cases h64 : n ≤ 64
    · have HS : Hid (∀ b, (b = true ↔ ∀ i, i < n → okAt l i = true) → snd c l = b) := fun b hb => by
        rw [Bool.eq_iff_iff, snd_iff, hb, hn]; exact ⟨fun h => h.2.2, fun h => ⟨hc, h64, h⟩⟩
      have HL := Lib.hid hl
      have HN := Lib.hid hn
      clear hn hl hc
      go_enter Try.func28, Try.ntmps28
      go_wp2_with (go_at_call 32; refine (hco _).mono ?_; rintro e w' ⟨rfl, rfl⟩)
      go_loopw [3, 4] (fun i _ wr => ∃ k : Nat, k ≤ n ∧ i = .int .i64 k ∧ Hid (∀ j, j < k → okAt l j = true) ∧ Below (w.heap.size + 1) (w.alloc (.cells #[.int .i64 c, .slice a n cap] 24)) wr) (fun i _ _ => n - (intOf i).toNat)
      case atStart => exact ⟨0, Nat.zero_le _, rfl, fun j hj => absurd hj (Nat.not_lt_zero j), Below.refl _ _⟩
      case round =>
        obtain ⟨k, hk, rfl, hok, hb⟩ := hrel
        have hz : w.heap.size < wr.heap.size := by have := hb.size; simp at this; omega
        have hc1 : wr.cell? ⟨w.heap.size, 1, none⟩ = some (.slice a n cap) := by rw [hb.cell (p := ⟨_, _, none⟩) (by simp)]; simp
        by_cases hlt : k < n
        · have hbw : Below w.heap.size w wr := ((Below.refl _ w).alloc (Nat.le_refl _) _).trans (hb.mono (by omega))
          obtain ⟨b, off, rfl, hblt, c1, c2⟩ := (HL.out.below hbw) k (by rw [HN.out]; exact hlt)
          by_cases hA : (l.getD k (0, 0)).1 < 0
          · have hno : okAt l k = false := by
              rw [Bool.eq_false_iff]; intro h; have := okAt_in h; omega
            have HF := Lib.hid (HS.out false ⟨fun h => absurd h (by decide), fun h => by rw [h k hlt] at hno; exact hno.symm⟩)
            clear hno hok HS
            generalize (l.getD k (0, 0)).1 = v at c1 hA
            generalize (l.getD k (0, 0)).2 = u at c2 
            have hA' : decide (v < 0) = true := by simpa using hA
            go_wp2_with fail
            go_quiet (fail)
            go_wp2
            go_ret
            exact ⟨ret_bool HF.out.symm, below_drewN (hbw.alloc (Nat.le_of_lt hz) _) _⟩
          have hA' : decide ((l.getD k (0, 0)).1 < 0) = false := by simpa using hA
          by_cases hB : 1048576 ≤ (l.getD k (0, 0)).1
          · have hno : okAt l k = false := by
              rw [Bool.eq_false_iff]; intro h; have := okAt_in h; omega
            have HF := Lib.hid (HS.out false ⟨fun h => absurd h (by decide), fun h => by rw [h k hlt] at hno; exact hno.symm⟩)
            clear hno hok HS
            generalize (l.getD k (0, 0)).1 = v at c1 hA hA' hB
            generalize (l.getD k (0, 0)).2 = u at c2 
            have hB' : decide (1048576 ≤ v) = true := by simpa using hB
            go_wp2_with fail
            go_quiet (fail)
            go_wp2
            go_ret
            exact ⟨ret_bool HF.out.symm, below_drewN (hbw.alloc (Nat.le_of_lt hz) _) _⟩
          have hB' : decide (1048576 ≤ (l.getD k (0, 0)).1) = false := by simpa using hB
          by_cases hC : (l.getD k (0, 0)).2 = 0
          · have hno : okAt l k = false := by
              rw [Bool.eq_false_iff]; intro h; have := okAt_in h; exact this.2.1 hC
            have HF := Lib.hid (HS.out false ⟨fun h => absurd h (by decide), fun h => by rw [h k hlt] at hno; exact hno.symm⟩)
            clear hno hok HS
            rw [hC] at c2
            generalize (l.getD k (0, 0)).1 = v at c1 hA hA' hB hB'
            clear hC
            go_wp2_with fail
            go_quiet (fail)
            go_wp2
            go_ret
            exact ⟨ret_bool HF.out.symm, below_drewN (hbw.alloc (Nat.le_of_lt hz) _) _⟩
          have hC' : ((l.getD k (0, 0)).2 == 0) = false := by simpa using hC
          have hcu := fun W => coef_same (l.getD k (0, 0)).2 W
          by_cases hD : wi (l.getD k (0, 0)).2 1073741824 = true
          · have hD' : -1073741824 ≤ (l.getD k (0, 0)).2 ∧ (l.getD k (0, 0)).2 ≤ 1073741824 := by unfold wi at hD; simpa using hD
            rw [hD] at hcu
            by_cases hk0 : k = 0
            · have hyes : okAt l k = true := okAt_mk ⟨by rw [hk0, lastAt_zero]; rw [hk0] at hA; omega, hC, by omega, by omega, hD'.1, hD'.2⟩
              have hok2 : Hid (∀ j, j < k + 1 → okAt l j = true) := fun j hj => by
                by_cases e : j = k
                · rw [e]; exact hyes
                · exact hok.out j (by omega)
              clear hyes hok HS
              subst hk0
              simp only [Nat.zero_mul, Nat.add_zero] at c1 c2
              generalize (l.getD 0 (0, 0)).1 = v at c1 hA hA' hB hB'
              generalize (l.getD 0 (0, 0)).2 = u at c2 hC hC' hcu hD hD'
              clear hC hD hD'
              go_wp2_with fail
              go_quiet ((go_at_call 32; exact Calls.quiet_of_same (hcu _)))
              go_wp2
              go_roundw
              case rel => exact ⟨0 + 1, by omega, by go_num, hok2, below_drewN (hb.alloc (by omega) _) _⟩
              case measure => simp [intOf]; omega
            · obtain ⟨m, rfl⟩ : ∃ m, k = m + 1 := ⟨k - 1, by omega⟩
              obtain ⟨b', off', hab, _, p1, _⟩ := (HL.out.below hbw) m (by rw [HN.out]; omega)
              obtain ⟨rfl, rfl⟩ : b = b' ∧ off = off' := by injection hab with h; injection h with h1 h2; exact ⟨h1, h2⟩
              clear hab
              have hw1 : IntKind.i64.wrap ((m : Int) + 1 - 1) = m := by rw [show (m : Int) + 1 - 1 = m by omega]; exact IntWalk.i64_in _ (by omega)
              have hw2 : IntKind.i64.wrap (m : Int) = m := IntWalk.i64_in _ (by omega)
              have hmn : m < n := by omega
              have hbwr : b < wr.heap.size := by omega
              by_cases hE : (l.getD m (0, 0)).1 < (l.getD (m + 1) (0, 0)).1
              · have hyes : okAt l (m + 1) = true := okAt_mk ⟨by rw [lastAt_succ]; exact hE, hC, by omega, by omega, hD'.1, hD'.2⟩
                have hok2 : Hid (∀ j, j < m + 1 + 1 → okAt l j = true) := fun j hj => by
                  by_cases e : j = m + 1
                  · rw [e]; exact hyes
                  · exact hok.out j (by omega)
                clear hyes hok HS
                generalize (l.getD (m + 1) (0, 0)).1 = v at c1 hA hA' hB hB' hE
                generalize (l.getD (m + 1) (0, 0)).2 = u at c2 hC hC' hcu hD hD'
                generalize (l.getD m (0, 0)).1 = pv at p1 hE
                have hE' : decide (v ≤ pv) = false := by simpa using hE
                clear hC hD hD'
                go_wp2_with fail
                go_quiet ((go_at_call 32; exact Calls.quiet_of_same (hcu _)))
                go_wp2
                go_roundw
                case rel => exact ⟨m + 1 + 1, by omega, by go_num, hok2, below_drewN (hb.alloc (by omega) _) _⟩
                case measure => simp [intOf]; omega
              · have hno : okAt l (m + 1) = false := by
                  rw [Bool.eq_false_iff]; intro h; have := okAt_in h; rw [lastAt_succ] at this; exact hE this.1
                have HF := Lib.hid (HS.out false ⟨fun h => absurd h (by decide), fun h => by rw [h (m + 1) hlt] at hno; exact hno.symm⟩)
                clear hno hok HS
                generalize (l.getD (m + 1) (0, 0)).1 = v at c1 hA hA' hB hB' hE
                generalize (l.getD (m + 1) (0, 0)).2 = u at c2 hC hC' hcu hD hD'
                generalize (l.getD m (0, 0)).1 = pv at p1 hE
                have hE' : decide (v ≤ pv) = true := by simpa using hE
                clear hC hD hD'
                go_wp2_with fail
                go_quiet ((go_at_call 32; exact Calls.quiet_of_same (hcu _)))
                go_wp2
                go_ret
                exact ⟨ret_bool HF.out.symm, below_drewN (hbw.alloc (Nat.le_of_lt hz) _) _⟩
          · have hD' : wi (l.getD k (0, 0)).2 1073741824 = false := by simpa using hD
            rw [hD'] at hcu
            have hno : okAt l k = false := by
              rw [Bool.eq_false_iff]; intro h; have := okAt_in h; exact hD (wi_t ⟨this.2.2.2.2.1, this.2.2.2.2.2⟩)
            have HF := Lib.hid (HS.out false ⟨fun h => absurd h (by decide), fun h => by rw [h k hlt] at hno; exact hno.symm⟩)
            clear hno hok HS
            generalize (l.getD k (0, 0)).1 = v at c1 hA hA' hB hB'
            generalize (l.getD k (0, 0)).2 = u at c2 hC hC' hcu hD hD'
            clear hC hD hD'
            go_wp2_with fail
            go_quiet ((go_at_call 32; exact Calls.quiet_of_same (hcu _)))
            go_wp2
            go_ret
            exact ⟨ret_bool HF.out.symm, below_drewN (hbw.alloc (Nat.le_of_lt hz) _) _⟩
        · have HF := Lib.hid (HS.out true ⟨fun _ i hi => hok.out i (by omega), fun _ => rfl⟩)
          go_wp2
          go_ret
          exact ⟨ret_bool HF.out.symm, ((Below.refl _ w).alloc (Nat.le_refl _) _).trans (hb.mono (by omega))⟩
    · rw [show snd c l = false by rw [Bool.eq_false_iff]; intro h; have := (snd_iff.1 h).2.1; omega]
      clear hn hl hc
      go_enter Try.func28, Try.ntmps28
      go_wp2_with (go_at_call 32; refine (hco _).mono ?_; rintro e w' ⟨rfl, rfl⟩)
      go_ret
      exact ⟨rfl, (Below.refl _ w).alloc (Nat.le_refl _) _⟩
  · have hc' : wi c 1073741824 = false := by simpa using hc
    rw [hc'] at hco
    rw [show snd c l = false by rw [Bool.eq_false_iff]; intro h; exact hc (snd_iff.1 h).1]
    clear hn hl hc hc'
    go_enter Try.func28, Try.ntmps28
    go_wp2_with (go_at_call 32; refine (hco _).mono ?_; rintro e w' ⟨rfl, rfl⟩)
    go_ret
    exact ⟨rfl, (Below.refl _ w).alloc (Nat.le_refl _) _⟩
end Go.Proofs.Ytknagcednppokaa
