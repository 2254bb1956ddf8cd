/- Whether a word is a name: the code's, the document's. -/
import Derived.Test.YtceknhhdgmappaaDoorScnG
set_option linter.unusedVariables false
set_option linter.unusedSimpArgs false
namespace Go.Proofs.YtceknhhdgmappaaDoor
set_option maxRecDepth 100000
open Go.RowKit

theorem nameB_of {l : List UInt8} (h0 : 0 < l.length) (h1 : l.length ≤ 32) : nameB l = (decide (wordN l = l.length) && !keyB l) := by
  unfold nameB; simp [h0, h1]
theorem nameB_no {l : List UInt8} (h : ¬ (0 < l.length ∧ l.length ≤ 32)) : nameB l = false := by
  unfold nameB
  rw [Bool.eq_false_iff]
  intro e
  simp only [Bool.and_eq_true, decide_eq_true_eq] at e
  exact h ⟨e.1.1.1, e.1.1.2⟩
set_option maxHeartbeats 2000000 in
theorem name_any (s : ByteArray) (w : World) (hs : s.size ≤ 9223372036854775807) (hL : Laid w) : Calls Tryd.prog 13 #[.string s] w fun e w' => e = .returned (.bool (nameB s.data.toList)) ∧ Below w.heap.size w w' := by
  have hsz := size_l s
  have HW := Lib.hid (fun W => word_any s W)
  have HK := Lib.hid (fun W (hb : Below w.heap.size w W) => key_any s W (hL.up hb))
  by_cases hok : 0 < s.size ∧ s.size ≤ 32
  · rw [nameB_of (by omega) (by omega)]
    have h0 : (0 : Int) < (s.size : Int) := by omega
    have h1 : (s.size : Int) ≤ 32 := by omega
    have hwl := wordN_le s.data.toList
    rw [hsz] at hwl ⊢
    generalize wordN s.data.toList = N at *
    generalize keyB s.data.toList = kb at *
    clear hL hsz hok
    by_cases hN : N = s.size
    · subst hN
      have hNN : ((s.size : Int) == (s.size : Int)) = true := by simp
      go_enter Tryd.func13, Tryd.ntmps13
      go_wp2_with fail
      refine (HW.out _).mono ?_
      rintro e w1 ⟨rfl, hb1⟩
      have B1 := Lib.hid hb1
      clear hb1 HW
      go_wp2_with fail
      refine (HK.out _ B1.out).mono ?_
      rintro e w2 ⟨rfl, rfl⟩
      go_wp2
      go_ret
      exact ⟨by simp, B1.out⟩
    · have hNN : ((N : Int) == (s.size : Int)) = false := by rw [Bool.eq_false_iff]; simp only [ne_eq, beq_iff_eq]; omega
      have E : Hid ((decide (N = s.size) && !kb) = false) := by show _ = _; rw [decide_eq_false hN]; rfl
      clear hN
      go_enter Tryd.func13, Tryd.ntmps13
      go_wp2_with fail
      refine (HW.out _).mono ?_
      rintro e w1 ⟨rfl, hb1⟩
      have B1 := Lib.hid hb1
      clear hb1 HW
      go_wp2
      go_ret
      exact ⟨by rw [E.out]; rfl, B1.out⟩
  · rw [nameB_no (by rw [hsz]; exact hok)]
    by_cases h0 : 0 < s.size
    · have h0i : (0 : Int) < (s.size : Int) := by omega
      have h1 : ¬ (s.size : Int) ≤ 32 := by omega
      clear hL hsz hok
      go_enter Tryd.func13, Tryd.ntmps13
      go_wp2
      go_ret
      exact ⟨rfl, Below.refl _ _⟩
    · have h0i : ¬ (0 : Int) < (s.size : Int) := by omega
      clear hL hsz hok
      go_enter Tryd.func13, Tryd.ntmps13
      go_wp2
      go_ret
      exact ⟨rfl, Below.refl _ _⟩
set_option maxHeartbeats 2000000 in
theorem rname_any (s : ByteArray) (w : World) (hs : s.size ≤ 9223372036854775807) : Calls Tryd.prog 14 #[.string s] w fun e w' => e = .returned (.bool (nameB s.data.toList)) ∧ Below w.heap.size w w' := by
  have hsz := size_l s
  have HK := Lib.hid (rkey_any s w)
  by_cases hok : 0 < s.size ∧ s.size ≤ 32
  · have HW := Lib.hid (fun W => rword_any s 0 W (by omega) (Nat.zero_le _))
    rw [nameB_of (by omega) (by omega)]
    have h0 : (0 : Int) < (s.size : Int) := by omega
    have h1 : (s.size : Int) ≤ 32 := by omega
    have hwl := wordN_le s.data.toList
    simp only [List.drop_zero, Int.natCast_zero] at HW
    rw [hsz] at hwl ⊢
    generalize wordN s.data.toList = N at *
    generalize keyB s.data.toList = kb at *
    clear hsz hok
    by_cases hN : N = s.size
    · subst hN
      have hNN : ((s.size : Int) == (s.size : Int)) = true := by simp
      go_enter Tryd.func14, Tryd.ntmps14
      go_wp2_with fail
      refine HK.out.mono ?_
      rintro e w1 ⟨rfl, hb1⟩
      have B1 := Lib.hid hb1
      clear hb1 HK
      go_wp2_with fail
      refine (HW.out _).mono ?_
      rintro e w2 ⟨rfl, rfl⟩
      go_wp2
      go_ret
      exact ⟨by simp, B1.out⟩
    · have hNN : ((N : Int) == (s.size : Int)) = false := by rw [Bool.eq_false_iff]; simp only [ne_eq, beq_iff_eq]; omega
      have E : Hid ((decide (N = s.size) && !kb) = false) := by show _ = _; rw [decide_eq_false hN]; rfl
      clear hN
      go_enter Tryd.func14, Tryd.ntmps14
      go_wp2_with fail
      refine HK.out.mono ?_
      rintro e w1 ⟨rfl, hb1⟩
      have B1 := Lib.hid hb1
      clear hb1 HK
      go_wp2_with fail
      refine (HW.out _).mono ?_
      rintro e w2 ⟨rfl, rfl⟩
      go_wp2
      go_ret
      exact ⟨by rw [E.out]; rfl, B1.out⟩
  · rw [nameB_no (by rw [hsz]; exact hok)]
    by_cases h0 : 0 < s.size
    · have h0i : (0 : Int) < (s.size : Int) := by omega
      have h1 : ¬ (s.size : Int) ≤ 32 := by omega
      clear hsz hok
      go_enter Tryd.func14, Tryd.ntmps14
      go_wp2_with fail
      refine HK.out.mono ?_
      rintro e w1 ⟨rfl, hb1⟩
      go_wp2
      go_ret
      exact ⟨rfl, hb1⟩
    · have h0i : ¬ (0 : Int) < (s.size : Int) := by omega
      clear hsz hok
      go_enter Tryd.func14, Tryd.ntmps14
      go_wp2_with fail
      refine HK.out.mono ?_
      rintro e w1 ⟨rfl, hb1⟩
      go_wp2
      go_ret
      exact ⟨rfl, hb1⟩
end Go.Proofs.YtceknhhdgmappaaDoor
