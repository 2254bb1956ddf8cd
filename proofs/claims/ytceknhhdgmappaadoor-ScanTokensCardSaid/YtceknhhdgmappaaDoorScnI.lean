/- Blanks and comments: the code's. -/
import Derived.Test.YtceknhhdgmappaaDoorScnH
import Derived.Lib.IndexBytes
set_option linter.unusedVariables false
set_option linter.unusedSimpArgs false
namespace Go.Proofs.YtceknhhdgmappaaDoor
set_option maxRecDepth 100000
open Go.RowKit

def BlankEnd (s : ByteArray) (w : World) (e : Ending) (w' : World) : Prop :=
  ∃ b : Nat, e = .returned (.int .i64 b) ∧ Skips s.data.toList b ∧ NoSkip (s.data.toList.drop b) ∧ b ≤ s.size ∧ Below w.heap.size w w'
theorem slash_two {l : List UInt8} {k : Nat} : (l.drop k).take 2 = [47, 47] ↔ ∃ h : k + 1 < l.length, (l[k]'(by omega)).toNat = 47 ∧ (l[k + 1]'h).toNat = 47 := by
  constructor
  · intro e
    have hl := congrArg List.length e
    simp only [List.length_take, List.length_drop, List.length_cons, List.length_nil] at hl
    have h : k + 1 < l.length := by omega
    refine ⟨h, ?_⟩
    rw [cons_of (by omega), cons_of h, List.take_succ_cons, List.take_succ_cons, List.take_zero] at e
    injection e with e1 e2
    injection e2 with e2 _
    rw [e1, e2]; exact ⟨rfl, rfl⟩
  · rintro ⟨h, h0, h1⟩
    rw [cons_of (by omega), cons_of h, List.take_succ_cons, List.take_succ_cons, List.take_zero]
    rw [show l[k]'(by omega) = 47 from UInt8.toNat_inj.1 h0, show l[k + 1]'h = 47 from UInt8.toNat_inj.1 h1]
theorem noSkip_at {l : List UInt8} {k : Nat} (h0 : runN isBl (l.drop k) = 0) (h1 : (l.drop k).take 2 ≠ [47, 47]) : NoSkip (l.drop k) := by
  refine noSkip_of h0 (fun ⟨h, a, b⟩ => h1 (slash_two.2 ?_))
  rw [List.length_drop] at h
  rw [List.getElem_drop] at a b
  exact ⟨by omega, by simpa using a, b⟩
theorem slice_mid {s : ByteArray} {a b : Nat} {x y : Int} (W : World) (hx : x = a) (hy : y = b) (hab : a ≤ b) (hb : b ≤ s.size) :
    (Instr.slice 9 (.string s) (some (.int .i64 x)) (some (.int .i64 y)) none).run Tryd.prog W = .ok (.string (s.extract a b)) W := by
  subst hx hy
  exact run_slice_string W _ s .i64 .i64 a b Tryd.underlying9 (by omega) (by omega) (by omega)
theorem slash_cmp (s : ByteArray) (a : Nat) : ((s.extract a (a + 2)).toList == [47, 47]) = decide ((s.data.toList.drop a).take 2 = [47, 47]) := by
  rw [Bool.eq_iff_iff]
  simp only [Lib.toList_data, Lib.extract_data, beq_iff_eq, decide_eq_true_eq, Nat.add_sub_cancel_left]
set_option maxHeartbeats 4000000 in
theorem blanks_any (s : ByteArray) (w : World) (hs : s.size ≤ 1000000) : Calls Tryd.prog 17 #[.string s] w (BlankEnd s w) := by
  have hsz := size_l s
  have HRB := Lib.hid (fun (k : Nat) W => rblank_run (s.extract k s.size) W)
  have HRN := Lib.hid (fun (k : Nat) W => rnotnl_run (s.extract k s.size) W)
  have HZ := Lib.hid hsz
  clear hsz
  go_enter Tryd.func17, Tryd.ntmps17
  go_wp2
  go_loopw [3] (fun i wr => ∃ k : Nat, k ≤ s.size ∧ i = .int .i64 k ∧ Hid (Skips s.data.toList k) ∧ Hid (Below w.heap.size w wr)) (fun i _ => s.size - (intOf i).toNat)
  case atStart => exact ⟨0, Nat.zero_le _, rfl, Skips.start, Below.refl _ _⟩
  case round =>
    obtain ⟨k, hk, rfl, hsk, hb⟩ := hrel
    obtain ⟨wo, rfl⟩ : ∃ wo : World, wo = wr := ⟨_, rfl⟩
    have HB1 := Lib.hid (HRB.out k wo)
    rw [Lib.extract_to_end] at HB1
    have h1 := runN_le isBl (s.data.toList.drop k)
    rw [List.length_drop, HZ.out] at h1
    obtain ⟨N, hN⟩ : ∃ N, runN isBl (s.data.toList.drop k) = N := ⟨_, rfl⟩
    rw [hN] at HB1 h1
    have HSB := Lib.hid (hsk.out.blanks N (by omega))
    have HN := Lib.hid hN
    clear hN
    have hkN : k + N ≤ s.size := by omega
    by_cases hA : k + N + 2 ≤ s.size
    · have hAi : (k : Int) + (N : Int) + 2 ≤ (s.size : Int) := by omega
      have hsl : ∀ W, (Instr.slice 9 (.string s) (some (.int .i64 ((k : Int) + (N : Int)))) (some (.int .i64 ((k : Int) + (N : Int) + 2))) none).run Tryd.prog W = .ok (.string (s.extract (k + N) (k + N + 2))) W := fun W =>
        slice_mid (a := k + N) (b := k + N + 2) W (by omega) (by omega) (by omega) hA
      have ht := slash_cmp s (k + N)
      by_cases hS : (s.data.toList.drop (k + N)).take 2 = [47, 47]
      · rw [decide_eq_true hS] at ht
        obtain ⟨q1, q2⟩ := HSB.out.comment (slash_two.1 hS).1 (slash_two.1 hS).2.1 (slash_two.1 hS).2.2
        have HSM := Lib.hid q1
        have HR2 := Lib.hid (HRN.out (k + N))
        simp only [Lib.extract_to_end] at HR2
        have h2 := runN_le notNl (s.data.toList.drop (k + N))
        rw [List.length_drop, HZ.out] at h2
        generalize runN notNl (s.data.toList.drop (k + N)) = M at *
        have hNM : ((N : Int) + (M : Int) == 0) = false := by rw [Bool.eq_false_iff]; simp only [ne_eq, beq_iff_eq]; omega
        have hkM : k + N + M ≤ s.size := by omega
        have hkMi : (k : Int) + ((N : Int) + (M : Int)) = ((k + N + M : Nat) : Int) := by omega
        have hM := Lib.hid hkMi
        generalize s.extract (k + N) (k + N + 2) = t at *
        clear hS q1 hkMi HRB HRN
        go_wp2_with fail
        refine HB1.out.mono ?_
        rintro e w1 ⟨rfl, hb1⟩
        have B1 := Lib.hid (hb.out.trans (hb1.mono hb.out.size))
        clear hb1 HB1 hb
        go_wp2_with fail
        refine (HR2.out _).mono ?_
        rintro e w2 ⟨rfl, hb2⟩
        have B2 := Lib.hid (B1.out.trans (hb2.mono B1.out.size))
        clear hb2 HR2 B1
        go_wp2_with fail
        go_roundw
        case rel => exact ⟨k + N + M, hkM, by rw [hM.out], HSM, B2⟩
        case measure => simp [intOf]; omega
      · rw [decide_eq_false hS] at ht
        by_cases h0 : N = 0
        · subst h0
          have HNS := Lib.hid (noSkip_at (k := k) HN.out hS)
          simp only [Int.natCast_zero, Int.add_zero, Nat.add_zero] at hsl ht hAi HB1
          generalize s.extract k (k + 2) = t at *
          clear hS HRB HRN
          go_wp2_with fail
          refine HB1.out.mono ?_
          rintro e w1 ⟨rfl, hb1⟩
          have B1 := Lib.hid (hb.out.trans (hb1.mono hb.out.size))
          clear hb1 HB1 hb
          go_wp2_with fail
          go_ret
          exact ⟨k, rfl, hsk.out, HNS.out, hk, B1.out⟩
        · have h0b : ((N : Int) == 0) = false := by rw [Bool.eq_false_iff]; simp only [ne_eq, beq_iff_eq]; omega
          generalize s.extract (k + N) (k + N + 2) = t at *
          clear hS HRB HRN
          go_wp2_with fail
          refine HB1.out.mono ?_
          rintro e w1 ⟨rfl, hb1⟩
          have B1 := Lib.hid (hb.out.trans (hb1.mono hb.out.size))
          clear hb1 HB1 hb
          go_wp2_with fail
          go_roundw
          case rel => exact ⟨k + N, hkN, by go_num, HSB, B1⟩
          case measure => simp [intOf]; omega
    · have hAi : ¬ (k : Int) + (N : Int) + 2 ≤ (s.size : Int) := by omega
      have hS : (s.data.toList.drop (k + N)).take 2 ≠ [47, 47] := fun e => by
        have := (slash_two.1 e).1
        rw [HZ.out] at this; omega
      by_cases h0 : N = 0
      · subst h0
        have HNS := Lib.hid (noSkip_at (k := k) HN.out hS)
        simp only [Int.natCast_zero, Int.add_zero, Nat.add_zero] at hAi HB1
        clear hS HRB HRN
        go_wp2_with fail
        refine HB1.out.mono ?_
        rintro e w1 ⟨rfl, hb1⟩
        have B1 := Lib.hid (hb.out.trans (hb1.mono hb.out.size))
        clear hb1 HB1 hb
        go_wp2_with fail
        go_ret
        exact ⟨k, rfl, hsk.out, HNS.out, hk, B1.out⟩
      · have h0b : ((N : Int) == 0) = false := by rw [Bool.eq_false_iff]; simp only [ne_eq, beq_iff_eq]; omega
        clear hS HRB HRN
        go_wp2_with fail
        refine HB1.out.mono ?_
        rintro e w1 ⟨rfl, hb1⟩
        have B1 := Lib.hid (hb.out.trans (hb1.mono hb.out.size))
        clear hb1 HB1 hb
        go_wp2_with fail
        go_roundw
        case rel => exact ⟨k + N, hkN, by go_num, HSB, B1⟩
        case measure => simp [intOf]; omega
end Go.Proofs.YtceknhhdgmappaaDoor
