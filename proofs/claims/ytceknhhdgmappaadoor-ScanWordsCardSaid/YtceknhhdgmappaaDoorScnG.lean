/- Names: the code's, the document's. -/
import Derived.Test.YtceknhhdgmappaaDoorScnF
set_option linter.unusedVariables false
set_option linter.unusedSimpArgs false
namespace Go.Proofs.YtceknhhdgmappaaDoor
set_option maxRecDepth 100000
open Go.RowKit

def nameB (l : List UInt8) : Bool := decide (0 < l.length) && decide (l.length ≤ 32) && decide (wordN l = l.length) && !keyB l
set_option maxHeartbeats 1000000 in
theorem rletter_any (c : UInt8) (w : World) : Calls Tryd.prog 22 #[.int .u8 (c.toNat : Int)] w fun e w' => e = .returned (.bool (isLet c)) ∧ w = w' := by
  have hlt := c.toNat_lt
  have q95 : decide (c.toNat = 95) = ((c.toNat : Int) == 95) := by rw [Bool.eq_iff_iff]; simp; omega
  have q97 : decide (97 ≤ c.toNat) = decide (97 ≤ (c.toNat : Int)) := by rw [Bool.eq_iff_iff]; simp; omega
  have q122 : decide (c.toNat ≤ 122) = decide ((c.toNat : Int) ≤ 122) := by rw [Bool.eq_iff_iff]; simp; omega
  have q65 : decide (65 ≤ c.toNat) = decide (65 ≤ (c.toNat : Int)) := by rw [Bool.eq_iff_iff]; simp; omega
  have q90 : decide (c.toNat ≤ 90) = decide ((c.toNat : Int) ≤ 90) := by rw [Bool.eq_iff_iff]; simp; omega
  have E : Hid (isLet c = (((c.toNat : Int) == 95) || (decide (97 ≤ (c.toNat : Int)) && decide ((c.toNat : Int) ≤ 122)) || (decide (65 ≤ (c.toNat : Int)) && decide ((c.toNat : Int) ≤ 90)))) := by
    show _ = _
    unfold isLet; rw [q95, q97, q122, q65, q90]
  clear q95 q97 q122 q65 q90
  generalize (c.toNat : Int) = r at *
  have go : ∀ (b1 b2 b3 b4 b5 : Bool), decide (97 ≤ r) = b1 → decide (r ≤ 122) = b2 → decide (65 ≤ r) = b3 → decide (r ≤ 90) = b4 → (r == 95) = b5 → Calls Tryd.prog 22 #[.int .u8 r] w fun e w' => e = .returned (.bool (b5 || (b1 && b2) || (b3 && b4))) ∧ w = w' := fun b1 b2 b3 b4 b5 h1 h2 h3 h4 h5 => by
    clear E hlt
    cases b1 <;> cases b2 <;> cases b3 <;> cases b4 <;> cases b5
    all_goals
      go_enter Tryd.func22, Tryd.ntmps22
      go_wp2
      go_ret
      exact ⟨rfl, rfl⟩
  rw [E.out]
  exact go _ _ _ _ _ rfl rfl rfl rfl rfl
theorem rdig_any (c : UInt8) (w : World) : Calls Tryd.prog 20 #[.int .u8 (c.toNat : Int)] w fun e w' => e = .returned (.bool (isDig c)) ∧ w = w' := by
  have q1 : decide (48 ≤ c.toNat) = decide (48 ≤ (c.toNat : Int)) := by rw [Bool.eq_iff_iff]; simp; omega
  have q2 : decide (c.toNat ≤ 57) = decide ((c.toNat : Int) ≤ 57) := by rw [Bool.eq_iff_iff]; simp; omega
  have E : Hid (isDig c = (decide (48 ≤ (c.toNat : Int)) && decide ((c.toNat : Int) ≤ 57))) := by
    show _ = _
    unfold isDig; rw [q1, q2]
  clear q1 q2
  generalize (c.toNat : Int) = r at *
  have go : ∀ (b1 b2 : Bool), decide (48 ≤ r) = b1 → decide (r ≤ 57) = b2 → Calls Tryd.prog 20 #[.int .u8 r] w fun e w' => e = .returned (.bool (b1 && b2)) ∧ w = w' := fun b1 b2 h1 h2 => by
    clear E
    cases b1 <;> cases b2
    all_goals
      go_enter Tryd.func20, Tryd.ntmps20
      go_wp2
      go_ret
      exact ⟨rfl, rfl⟩
  rw [E.out]
  exact go _ _ rfl rfl
theorem wordD_lt {l : List UInt8} {at' n : Nat} (h : n < wordN (l.drop at')) : ∃ hk : at' + n < l.length, nameAt n (l[at' + n]) = true := by
  obtain ⟨h1, h2⟩ := wordN_lt h
  rw [List.length_drop] at h1
  exact ⟨by omega, by rw [List.getElem_drop] at h2; exact h2⟩
theorem wordD_at {l : List UInt8} {at' : Nat} (h : at' + wordN (l.drop at') < l.length) : nameAt (wordN (l.drop at')) (l[at' + wordN (l.drop at')]) = false := by
  have := wordN_at (l := l.drop at') (by rw [List.length_drop]; omega)
  rw [List.getElem_drop] at this
  exact this
theorem wordD_le {l : List UInt8} {at' : Nat} (h : at' ≤ l.length) : at' + wordN (l.drop at') ≤ l.length := by
  have := wordN_le (l.drop at')
  rw [List.length_drop] at this
  omega
set_option maxHeartbeats 4000000 in
theorem rword_any (s : ByteArray) (at' : Nat) (w : World) (hs : s.size ≤ 1000000) (ha : at' ≤ s.size) : Calls Tryd.prog 19 #[.string s, .int .i64 at'] w fun e w' => e = .returned (.int .i64 (wordN (s.data.toList.drop at'))) ∧ w = w' := by
  have hsz := size_l s
  have HLT := Lib.hid (fun n => wordD_lt (l := s.data.toList) (at' := at') (n := n))
  have HAT := Lib.hid (wordD_at (l := s.data.toList) (at' := at'))
  have hle := wordD_le (l := s.data.toList) (at' := at') (by omega)
  generalize wordN (s.data.toList.drop at') = N at *
  have hN : at' + N ≤ s.size := by omega
  have HZ := Lib.hid hsz
  clear hsz hle
  go_enter Tryd.func19, Tryd.ntmps19
  go_wp2
  go_loop [5] (fun i => ∃ n : Nat, n ≤ N ∧ i = .int .i64 n) (fun i => N - (intOf i).toNat)
  case atStart => exact ⟨0, Nat.zero_le _, rfl⟩
  case round =>
    obtain ⟨n, hn, rfl⟩ := hrel
    by_cases hin : at' + n < s.size
    · have hini : (at' : Int) + (n : Int) < (s.size : Int) := by omega
      have hix : ∀ W, (Instr.index 9 (.string s) (.int .i64 ((at' : Int) + (n : Int)))).run Tryd.prog W = .ok (.int .u8 ((s[at' + n]'hin).toNat : Int)) W := fun W => by
        have e : ((at' : Int) + (n : Int)) = ((at' + n : Nat) : Int) := by omega
        rw [e, run_index_string W _ s .i64 _ Tryd.underlying9, dif_pos ⟨by omega, by omega⟩]
        rfl
      have hg := get_l s (at' + n) hin
      have HL := Lib.hid (fun W => rletter_any (s[at' + n]'hin) W)
      have HD := Lib.hid (fun W => rdig_any (s[at' + n]'hin) W)
      by_cases hlt : n < N
      · obtain ⟨_, hna⟩ := HLT.out n hlt
        rw [← hg] at hna
        clear hg
        generalize s[at' + n]'hin = c at *
        unfold nameAt at hna
        have hlti : ¬ N ≤ n := by omega
        cases hl : isLet c with
        | true =>
          rw [hl] at HL
          clear hna hl
          go_wp2_with fail
          refine (HL.out _).mono ?_
          rintro e w1 ⟨rfl, rfl⟩
          go_wp2
          go_round
          case rel => exact ⟨n + 1, by omega, by go_num⟩
          case measure => simp [intOf]; omega
        | false =>
          rw [hl] at hna HL
          simp only [Bool.false_or, Bool.and_eq_true, decide_eq_true_eq] at hna
          obtain ⟨hn0, hd⟩ := hna
          rw [hd] at HD
          have hn0i : (0 : Int) < (n : Int) := by omega
          clear hl hd
          go_wp2_with fail
          refine (HL.out _).mono ?_
          rintro e w1 ⟨rfl, rfl⟩
          go_wp2_with fail
          refine (HD.out _).mono ?_
          rintro e w1 ⟨rfl, rfl⟩
          go_wp2
          go_round
          case rel => exact ⟨n + 1, by omega, by go_num⟩
          case measure => simp [intOf]; omega
      · obtain rfl : n = N := by omega
        have hna := HAT.out (by rw [HZ.out]; exact hin)
        rw [← hg] at hna
        clear hg
        generalize s[at' + n]'hin = c at *
        unfold nameAt at hna
        rw [Bool.or_eq_false_iff] at hna
        obtain ⟨hl, hna⟩ := hna
        rw [hl] at HL
        by_cases hn0 : 0 < n
        · have hd : isDig c = false := by simpa [hn0] using hna
          rw [hd] at HD
          have hn0i : (0 : Int) < (n : Int) := by omega
          clear hl hd hna
          go_wp2_with fail
          refine (HL.out _).mono ?_
          rintro e w1 ⟨rfl, rfl⟩
          go_wp2_with fail
          refine (HD.out _).mono ?_
          rintro e w1 ⟨rfl, rfl⟩
          go_wp2
          go_ret
          exact ⟨rfl, rfl⟩
        · have hn0i : ¬ (0 : Int) < (n : Int) := by omega
          clear hl hna
          go_wp2_with fail
          refine (HL.out _).mono ?_
          rintro e w1 ⟨rfl, rfl⟩
          go_wp2
          go_ret
          exact ⟨rfl, rfl⟩
    · obtain rfl : n = N := by
        rcases Nat.lt_or_ge n N with h | h
        · obtain ⟨h1, _⟩ := HLT.out n h
          rw [HZ.out] at h1; exact absurd h1 hin
        · omega
      have hini : ¬ (at' : Int) + (n : Int) < (s.size : Int) := by omega
      go_wp2
      go_ret
      exact ⟨rfl, rfl⟩
end Go.Proofs.YtceknhhdgmappaaDoor
