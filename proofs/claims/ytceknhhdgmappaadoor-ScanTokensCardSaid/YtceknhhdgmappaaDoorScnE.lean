/- Runes' tests; how many bytes a source begins with. -/
import Derived.Test.YtceknhhdgmappaaDoorScnD
import Derived.Test.YtceknhhdgmappaaDoorErrI
import Derived.Deep.QuietTactic
import Derived.BigQuiet
import Derived.Shelf.Abstract
set_option linter.unusedVariables false
set_option linter.unusedSimpArgs false
namespace Go.Proofs.YtceknhhdgmappaaDoor
set_option maxRecDepth 100000
open Go.RowKit

theorem blank_any (r : Int) (w : World) : Calls Tryd.prog 27 #[.int .i32 r] w fun e w' => e = .returned (.bool (qBl r)) ∧ w = w' := by
  unfold qBl
  by_cases h1 : r = 32
  · subst h1
    go_enter Tryd.func27, Tryd.ntmps27
    go_wp2
    go_ret
    exact ⟨rfl, rfl⟩
  · have e1 : (r == 32) = false := by simpa using h1
    by_cases h2 : r = 9
    · subst h2
      go_enter Tryd.func27, Tryd.ntmps27
      go_wp2
      go_ret
      exact ⟨rfl, rfl⟩
    · have e2 : (r == 9) = false := by simpa using h2
      have e3 : (r == 10) = decide (r = 10) := by rw [Bool.eq_iff_iff]; simp
      have E3 := Lib.hid e3
      have E4 : Hid ((decide (r = 32) || decide (r = 9) || decide (r = 10)) = (r == 10)) := by
        show _ = _
        rw [decide_eq_false h1, decide_eq_false h2, e3]; rfl
      clear e3 h1 h2
      go_enter Tryd.func27, Tryd.ntmps27
      go_wp2
      go_ret
      exact ⟨by rw [E4.out]; rfl, rfl⟩
theorem notnl_any (r : Int) (w : World) : Calls Tryd.prog 28 #[.int .i32 r] w fun e w' => e = .returned (.bool (qNl r)) ∧ w = w' := by
  have E : Hid (qNl r = (r != 10)) := by
    show _ = _
    unfold qNl; rw [Bool.eq_iff_iff]; simp
  go_enter Tryd.func28, Tryd.ntmps28
  go_wp2
  go_ret
  exact ⟨by rw [E.out]; rfl, rfl⟩
theorem digit_any (r : Int) (w : World) : Calls Tryd.prog 30 #[.int .i32 r] w fun e w' => e = .returned (.bool (qDig r)) ∧ w = w' := by
  unfold qDig
  by_cases h1 : 48 ≤ r
  · have e1 : decide (48 ≤ r) = true := by simpa using h1
    have E : Hid ((decide (48 ≤ r) && decide (r ≤ 57)) = decide (r ≤ 57)) := by show _ = _; rw [e1]; rfl
    go_enter Tryd.func30, Tryd.ntmps30
    go_wp2
    go_ret
    exact ⟨by rw [E.out]; rfl, rfl⟩
  · have e1 : decide (48 ≤ r) = false := by simpa using h1
    go_enter Tryd.func30, Tryd.ntmps30
    go_wp2
    go_ret
    exact ⟨rfl, rfl⟩
set_option maxHeartbeats 2000000 in
theorem inner_any (r : Int) (w : World) : Calls Tryd.prog 32 #[.int .i32 r] w fun e w' => e = .returned (.bool (qIn r)) ∧ w = w' := by
  have HD := Lib.hid (fun W => digit_any r W)
  have e97 : (decide (97 ≤ r) = true ∨ decide (97 ≤ r) = false) := by cases decide (97 ≤ r) <;> simp
  have e122 : (decide (r ≤ 122) = true ∨ decide (r ≤ 122) = false) := by cases decide (r ≤ 122) <;> simp
  have e65 : (decide (65 ≤ r) = true ∨ decide (65 ≤ r) = false) := by cases decide (65 ≤ r) <;> simp
  have e90 : (decide (r ≤ 90) = true ∨ decide (r ≤ 90) = false) := by cases decide (r ≤ 90) <;> simp
  have e95 : ((r == 95) = true ∨ (r == 95) = false) := by cases (r == 95) <;> simp
  have q95 : decide (r = 95) = (r == 95) := by rw [Bool.eq_iff_iff]; simp
  have E : Hid (qIn r = ((decide (97 ≤ r) && decide (r ≤ 122)) || (decide (65 ≤ r) && decide (r ≤ 90)) || (r == 95) || qDig r)) := by
    show _ = _
    unfold qIn; rw [q95]
  clear q95
  generalize qDig r = d at HD E
  have go : ∀ (b1 b2 b3 b4 b5 : Bool), decide (97 ≤ r) = b1 → decide (r ≤ 122) = b2 → decide (65 ≤ r) = b3 → decide (r ≤ 90) = b4 → (r == 95) = b5 → Calls Tryd.prog 32 #[.int .i32 r] w fun e w' => e = .returned (.bool ((b1 && b2) || (b3 && b4) || b5 || d)) ∧ w = w' := fun b1 b2 b3 b4 b5 h1 h2 h3 h4 h5 => by
    clear E e97 e122 e65 e90 e95
    cases b1 <;> cases b2 <;> cases b3 <;> cases b4 <;> cases b5
    all_goals
      go_enter Tryd.func32, Tryd.ntmps32
      first
        | (go_wp2; go_ret; exact ⟨rfl, rfl⟩)
        | (go_wp2_with fail; refine (HD.out _).mono ?_; rintro e w1 ⟨rfl, rfl⟩; go_wp2; go_ret; exact ⟨rfl, rfl⟩)
  rw [E.out]
  exact go _ _ _ _ _ rfl rfl rfl rfl rfl
/-- How many bytes a source begins with whose runes are such. -/
theorem run_any (g : Nat) (q : Int → Bool) (p : UInt8 → Bool) (hq : RuneBy q p) (eg : ∀ args w, (callFunc g args).run Tryd.prog w = .ok (.enter g args) w) (hf : ∀ r W, Calls Tryd.prog g #[.int .i32 r] W fun e w' => e = .returned (.bool (q r)) ∧ W = w') (s : ByteArray) (w : World) :
    Calls Tryd.prog 26 #[.string s, .func (.func g) #[] #[]] w fun e w' => e = .returned (.int .i64 (runN p s.data.toList)) ∧ Below w.heap.size w w' := by
  have HS := Lib.hid (run_stop hq s)
  have HO := Lib.hid (run_on hq s)
  have HE := Lib.hid (run_fin (p := p) s)
  have HF := Lib.hid hf
  have HB := Lib.hid (fun pos => (show Below w.heap.size w (w.iter s pos) from (Below.refl _ w).alloc (Nat.le_refl _) _))
  clear hq hf
  generalize runN p s.data.toList = N at HS HO HE
  go_enter Tryd.func26, Tryd.ntmps26
  go_wp2
  go_loopw [5] (fun _ wr => ∃ pos : Nat, wr = w.iter s pos ∧ pos ≤ N) (fun _ wr => s.size - wr.iterPos w.heap.size)
  case atStart => exact ⟨0, rfl, Nat.zero_le _⟩
  case round =>
    obtain ⟨pos, rfl, hp⟩ := hrel
    by_cases hlt : pos < s.size
    · have hnx : ∀ ty, (Instr.next (.pointer (some ⟨w.heap.size, 0, none⟩)) true ty).run Tryd.prog (w.iter s pos) = _ := fun ty => run_next_any w s pos ty hlt
      have HC := Lib.hid (HF.out ((Utf8.decode s pos).1 : Nat) (w.iter s (pos + (Utf8.decode s pos).2)))
      have HS1 := Lib.hid (HS.out pos hlt hp)
      have HO1 := Lib.hid (HO.out pos hlt hp)
      cases hv : q ((Utf8.decode s pos).1 : Nat) with
      | true =>
        have HC2 : Hid (Calls Tryd.prog g #[.int .i32 ((Utf8.decode s pos).1 : Nat)] (w.iter s (pos + (Utf8.decode s pos).2)) fun e w' => e = .returned (.bool true) ∧ w.iter s (pos + (Utf8.decode s pos).2) = w') := by
          show Calls _ _ _ _ _
          rw [← hv]; exact HC.out
        obtain ⟨h1, h2, h3⟩ := HO1.out hv
        clear hv HC HS1 HO1
        go_wp2_with fail
        refine HC2.out.mono ?_
        rintro e w1 ⟨rfl, rfl⟩
        go_wp2_with fail
        go_roundw
        case rel => exact ⟨_, rfl, h1⟩
        case measure => simp; omega
      | false =>
        have HC2 : Hid (Calls Tryd.prog g #[.int .i32 ((Utf8.decode s pos).1 : Nat)] (w.iter s (pos + (Utf8.decode s pos).2)) fun e w' => e = .returned (.bool false) ∧ w.iter s (pos + (Utf8.decode s pos).2) = w') := by
          show Calls _ _ _ _ _
          rw [← hv]; exact HC.out
        obtain rfl := HS1.out hv
        clear hv HC HS1 HO1
        go_wp2_with fail
        refine HC2.out.mono ?_
        rintro e w1 ⟨rfl, rfl⟩
        go_wp2_with fail
        go_ret
        exact ⟨rfl, HB.out _⟩
    · have hnx : ∀ ty, (Instr.next (.pointer (some ⟨w.heap.size, 0, none⟩)) true ty).run Tryd.prog (w.iter s pos) = _ := fun ty => run_next_end w s pos ty hlt
      obtain rfl := HE.out pos hlt hp
      go_wp2
      go_ret
      exact ⟨rfl, HB.out _⟩
theorem rdigit_run (s : ByteArray) (w : World) : Calls Tryd.prog 26 #[.string s, .func (.func 30) #[] #[]] w fun e w' => e = .returned (.int .i64 (runN isDig s.data.toList)) ∧ Below w.heap.size w w' :=
  run_any _ qDig isDig byDig (enters_of Tryd.func30 (by kernel_rfl) rfl) (fun r W => digit_any r W) s w
theorem rinner_run (s : ByteArray) (w : World) : Calls Tryd.prog 26 #[.string s, .func (.func 32) #[] #[]] w fun e w' => e = .returned (.int .i64 (runN isIn s.data.toList)) ∧ Below w.heap.size w w' :=
  run_any _ qIn isIn byIn (enters_of Tryd.func32 (by kernel_rfl) rfl) (fun r W => inner_any r W) s w
theorem rblank_run (s : ByteArray) (w : World) : Calls Tryd.prog 26 #[.string s, .func (.func 27) #[] #[]] w fun e w' => e = .returned (.int .i64 (runN isBl s.data.toList)) ∧ Below w.heap.size w w' :=
  run_any _ qBl isBl byBl (enters_of Tryd.func27 (by kernel_rfl) rfl) (fun r W => blank_any r W) s w
theorem rnotnl_run (s : ByteArray) (w : World) : Calls Tryd.prog 26 #[.string s, .func (.func 28) #[] #[]] w fun e w' => e = .returned (.int .i64 (runN notNl s.data.toList)) ∧ Below w.heap.size w w' :=
  run_any _ qNl notNl byNl (enters_of Tryd.func28 (by kernel_rfl) rfl) (fun r W => notnl_any r W) s w
theorem word_any (s : ByteArray) (w : World) : Calls Tryd.prog 23 #[.string s] w fun e w' => e = .returned (.int .i64 (wordN s.data.toList)) ∧ Below w.heap.size w w' := by
  have HD := Lib.hid (fun W => rdigit_run s W)
  have HI := Lib.hid (fun W => rinner_run s W)
  unfold wordN
  by_cases h : 0 < runN isDig s.data.toList
  · rw [if_pos h]
    have hi : (0 : Int) < (runN isDig s.data.toList : Int) := by omega
    generalize runN isDig s.data.toList = N at *
    go_enter Tryd.func23, Tryd.ntmps23
    go_wp2_with fail
    refine (HD.out _).mono ?_
    rintro e w1 ⟨rfl, hb⟩
    go_wp2_with fail
    go_ret
    exact ⟨rfl, hb⟩
  · rw [if_neg h]
    have hi : ¬ (0 : Int) < (runN isDig s.data.toList : Int) := by omega
    generalize runN isDig s.data.toList = N at *
    go_enter Tryd.func23, Tryd.ntmps23
    go_wp2_with fail
    refine (HD.out _).mono ?_
    rintro e w1 ⟨rfl, hb⟩
    have HB := Lib.hid hb
    clear hb
    go_wp2_with fail
    refine (HI.out _).mono ?_
    rintro e w2 ⟨rfl, hb2⟩
    have HB2 := Lib.hid (HB.out.trans (hb2.mono HB.out.size))
    clear hb2
    go_wp2_with fail
    go_ret
    exact ⟨rfl, HB2.out⟩
end Go.Proofs.YtceknhhdgmappaaDoor
