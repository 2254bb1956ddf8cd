/- The order of cells; heap.order. -/
import Derived.Test.YteiomafciignkaaProg
import Derived.WalkKit
import Derived.Lib.Hide
import Derived.Below
import Derived.Lib.Bytealg
set_option linter.unusedVariables false
set_option linter.unusedSimpArgs false
namespace Go.Proofs.Yteiomafciignkaa
set_option maxRecDepth 100000
open Go.RowKit

/-! Bytes. -/
abbrev Bs := List UInt8
theorem bl_irrefl : ∀ x : Bs, Op.bytesLess x x = false
  | [] => rfl
  | a :: x => by
    have h1 : ¬ a < a := UInt8.lt_irrefl a
    simp [Op.bytesLess, bl_irrefl x]
theorem bl_trans : ∀ {x y z : Bs}, Op.bytesLess x y = true → Op.bytesLess y z = true → Op.bytesLess x z = true
  | [], [], _, h, _ => by simp [Op.bytesLess] at h
  | [], _ :: _, [], _, h => by simp [Op.bytesLess] at h
  | [], _ :: _, _ :: _, _, _ => rfl
  | _ :: _, [], _, h, _ => by simp [Op.bytesLess] at h
  | _ :: _, _ :: _, [], _, h => by simp [Op.bytesLess] at h
  | a :: x, b :: y, c :: z, h1, h2 => by
    simp only [Op.bytesLess, Bool.or_eq_true, decide_eq_true_eq, Bool.and_eq_true, beq_iff_eq] at h1 h2 ⊢
    rcases h1 with h1 | ⟨rfl, h1⟩
    · rcases h2 with h2 | ⟨rfl, _⟩
      · exact .inl (UInt8.lt_trans h1 h2)
      · exact .inl h1
    · rcases h2 with h2 | ⟨rfl, h2⟩
      · exact .inl h2
      · exact .inr ⟨rfl, bl_trans h1 h2⟩
theorem bl_total : ∀ {x y : Bs}, x ≠ y → Op.bytesLess x y = true ∨ Op.bytesLess y x = true
  | [], [], h => absurd rfl h
  | [], _ :: _, _ => .inl rfl
  | _ :: _, [], _ => .inr rfl
  | a :: x, b :: y, h => by
    simp only [Op.bytesLess, Bool.or_eq_true, decide_eq_true_eq, Bool.and_eq_true, beq_iff_eq]
    by_cases hab : a = b
    · subst hab
      rcases bl_total (x := x) (y := y) (fun e => h (by rw [e])) with h1 | h1
      · exact .inl (.inr ⟨rfl, h1⟩)
      · exact .inr (.inr ⟨rfl, h1⟩)
    · rcases UInt8.lt_or_lt_of_ne hab with h1 | h1
      · exact .inl (.inl h1)
      · exact .inr (.inl h1)
theorem cmpB_eq : ∀ x y : Bs, Lib.compareBytes x y = if Op.bytesLess x y = true then -1 else if x = y then 0 else 1
  | [], [] => rfl
  | [], _ :: _ => rfl
  | _ :: _, [] => by simp [Lib.compareBytes, Op.bytesLess]
  | a :: x, b :: y => by
    unfold Lib.compareBytes
    rw [cmpB_eq x y]
    simp only [Op.bytesLess, Bool.or_eq_true, decide_eq_true_eq, Bool.and_eq_true, beq_iff_eq]
    by_cases h1 : a < b
    · rw [if_pos h1, if_pos (.inl h1)]
    · rw [if_neg h1]
      by_cases h2 : b < a
      · rw [if_pos h2, if_neg, if_neg]
        · intro e; injection e with e _; subst e; exact UInt8.lt_irrefl _ h2
        · rintro (h | ⟨rfl, _⟩)
          · exact h1 h
          · exact UInt8.lt_irrefl _ h2
      · rw [if_neg h2]
        obtain rfl : a = b := by
          rcases Classical.em (a = b) with h | h
          · exact h
          · rcases UInt8.lt_or_lt_of_ne h with h | h
            · exact absurd h h1
            · exact absurd h h2
        by_cases h3 : Op.bytesLess x y = true
        · rw [if_pos h3, if_pos (.inr ⟨rfl, h3⟩)]
        · have h5 : ¬ (a < a ∨ a = a ∧ Op.bytesLess x y = true) := fun h => by
            rcases h with h | ⟨_, h⟩
            · exact h1 h
            · exact h3 h
          rw [if_neg h3, if_neg h5]
          by_cases h4 : x = y
          · rw [if_pos h4, if_pos (by rw [h4])]
          · rw [if_neg h4, if_neg (fun e => h4 (by injection e))]
/-! Keys. -/
abbrev Key := Int × Bs
def kl (x y : Key) : Bool := decide (x.1 < y.1) || (decide (x.1 = y.1) && Op.bytesLess x.2 y.2)
theorem kl_iff {x y : Key} : kl x y = true ↔ x.1 < y.1 ∨ x.1 = y.1 ∧ Op.bytesLess x.2 y.2 = true := by simp [kl]
theorem kl_irrefl (x : Key) : ¬ kl x x = true := fun h => by
  rcases kl_iff.1 h with h | ⟨_, h⟩
  · omega
  · rw [bl_irrefl] at h; cases h
theorem kl_trans {x y z : Key} (h1 : kl x y = true) (h2 : kl y z = true) : kl x z = true := by
  rw [kl_iff] at *
  rcases h1 with h1 | ⟨e1, h1⟩
  · rcases h2 with h2 | ⟨e2, h2⟩
    · left; omega
    · left; omega
  · rcases h2 with h2 | ⟨e2, h2⟩
    · left; omega
    · right; exact ⟨by omega, bl_trans h1 h2⟩
theorem kl_total {x y : Key} (h : x ≠ y) : kl x y = true ∨ kl y x = true := by
  rw [kl_iff, kl_iff]
  obtain ⟨a, f⟩ := x
  obtain ⟨b, g⟩ := y
  simp only
  by_cases e : a = b
  · subst e
    rcases bl_total (x := f) (y := g) (fun e => h (by rw [e])) with h1 | h1
    · exact .inl (.inr ⟨rfl, h1⟩)
    · exact .inr (.inr ⟨rfl, h1⟩)
  · rcases Int.lt_or_gt_of_ne e with h1 | h1
    · exact .inl (.inl h1)
    · exact .inr (.inl h1)
theorem kl_asymm {x y : Key} (h : kl x y = true) : ¬ kl y x = true := fun h2 => kl_irrefl x (kl_trans h h2)
theorem kl_ne {x y : Key} (h : kl x y = true) : x ≠ y := fun e => by subst e; exact kl_irrefl x h
def ordK (x y : Key) : Int := if kl x y = true then -1 else if x = y then 0 else 1
theorem ordK_lt {x y : Key} : ordK x y < 0 ↔ kl x y = true := by unfold ordK; split <;> rename_i h <;> simp [h] <;> split <;> decide
theorem ordK_zero {x y : Key} : ordK x y = 0 ↔ x = y := by
  unfold ordK
  by_cases h : kl x y = true
  · rw [if_pos h]; exact ⟨fun h => (by cases h), fun e => absurd e (kl_ne h)⟩
  · rw [if_neg h]
    by_cases e : x = y
    · rw [if_pos e]; exact ⟨fun _ => e, fun _ => rfl⟩
    · rw [if_neg e]; exact ⟨fun h => (by cases h), fun h => absurd h e⟩
theorem ordK_in (x y : Key) : -1 ≤ ordK x y ∧ ordK x y ≤ 1 := by unfold ordK; repeat (first | split | omega)
/-! The walks. -/
theorem toL (s : ByteArray) : s.toList = s.data.toList := Lib.toList_data s
theorem bs_inj {f g : ByteArray} (h : f.toList = g.toList) : f = g := by
  rw [toL, toL] at h
  obtain ⟨⟨l⟩⟩ := f
  obtain ⟨⟨m⟩⟩ := g
  simp only at h
  rw [h]
theorem nan_any (x : Int) (w : World) : Calls Try.prog 39 #[.int .i64 x] w fun e w' => e = .returned (.bool false) ∧ w = w' := by
  have h : (x != x) = false := by simp
  go_enter Try.func39, Try.ntmps39
  go_wp2
  go_ret
  exact ⟨rfl, rfl⟩
def cmpI (x y : Int) : Int := if x < y then -1 else if x = y then 0 else 1
theorem cmpi_any (x y : Int) (w : World) : Calls Try.prog 32 #[.int .i64 x, .int .i64 y] w fun e w' => e = .returned (.int .i64 (cmpI x y)) ∧ w = w' := by
  have HN := Lib.hid (fun z W => nan_any z W)
  unfold cmpI
  rcases Int.lt_trichotomy x y with h | rfl | h
  · rw [if_pos h]
    go_enter Try.func32, Try.ntmps32
    go_wp2_with fail
    refine (HN.out _ _).mono ?_
    rintro e w1 ⟨rfl, rfl⟩
    go_wp2_with fail
    refine (HN.out _ _).mono ?_
    rintro e w1 ⟨rfl, rfl⟩
    go_wp2_with fail
    go_ret
    exact ⟨rfl, rfl⟩
  · rw [if_neg (Int.lt_irrefl x), if_pos rfl]
    go_enter Try.func32, Try.ntmps32
    go_wp2_with fail
    refine (HN.out _ _).mono ?_
    rintro e w1 ⟨rfl, rfl⟩
    go_wp2_with fail
    refine (HN.out _ _).mono ?_
    rintro e w1 ⟨rfl, rfl⟩
    go_wp2_with fail
    go_ret
    exact ⟨rfl, rfl⟩
  · have h2 : ¬ x < y := by omega
    have h3 : x ≠ y := by omega
    rw [if_neg h2, if_neg h3]
    go_enter Try.func32, Try.ntmps32
    go_wp2_with fail
    refine (HN.out _ _).mono ?_
    rintro e w1 ⟨rfl, rfl⟩
    go_wp2_with fail
    refine (HN.out _ _).mono ?_
    rintro e w1 ⟨rfl, rfl⟩
    go_wp2_with fail
    go_ret
    exact ⟨rfl, rfl⟩
theorem cmpstr_any (a b : ByteArray) (w : World) : Calls Try.prog 40 #[.string a, .string b] w fun e w' => e = .returned (.int .i64 (Lib.compareBytes a.data.toList b.data.toList)) ∧ w = w' := by
  go_enter Try.func40, Try.ntmps40
  go_wp2_with fail
  rw [run_callFunc_extern Try.func43 (by kernel_rfl) (by kernel_rfl) (by kernel_rfl) (e := Extern.BytealgCompare.compare) (by kernel_rfl), Lib.run_compareString]
  simp only [Result.andThen]
  rw [Oper.upon_value]
  go_wp2
  go_ret
  exact ⟨rfl, rfl⟩
theorem scmp_any (a b : ByteArray) (w : World) : Calls Try.prog 33 #[.string a, .string b] w fun e w' => e = .returned (.int .i64 (Lib.compareBytes a.data.toList b.data.toList)) ∧ w = w' := by
  have HC := Lib.hid (cmpstr_any a b w)
  go_enter Try.func33, Try.ntmps33
  go_wp2_with fail
  refine HC.out.mono ?_
  rintro e w1 ⟨rfl, rfl⟩
  go_wp2_with fail
  go_ret
  exact ⟨rfl, rfl⟩
theorem order_any (a : Int) (f : ByteArray) (b : Int) (g : ByteArray) (w : World) : Calls Try.prog 24 #[.int .i64 a, .string f, .int .i64 b, .string g] w fun e w' => e = .returned (.int .i64 (ordK (a, f.toList) (b, g.toList))) ∧ w = w' := by
  have HI := Lib.hid (cmpi_any a b w)
  have HS := Lib.hid (scmp_any f g w)
  by_cases hab : a = b
  · subst hab
    have e1 : cmpI a a = 0 := by unfold cmpI; rw [if_neg (Int.lt_irrefl a), if_pos rfl]
    have e2 : ordK (a, f.toList) (a, g.toList) = Lib.compareBytes f.data.toList g.data.toList := by
      rw [cmpB_eq, ← toL, ← toL]
      unfold ordK
      by_cases h : Op.bytesLess f.toList g.toList = true
      · have h2 : kl (a, f.toList) (a, g.toList) = true := kl_iff.2 (.inr ⟨rfl, h⟩)
        rw [if_pos h, if_pos h2]
      · have h2 : ¬ kl (a, f.toList) (a, g.toList) = true := fun h' => by
          rcases kl_iff.1 h' with h' | ⟨_, h'⟩
          · exact absurd h' (Int.lt_irrefl _)
          · exact h h'
        rw [if_neg h, if_neg h2]
        by_cases h2 : f.toList = g.toList
        · rw [if_pos h2, if_pos (by rw [h2])]
        · rw [if_neg h2, if_neg (fun e => h2 (by injection e))]
    rw [e1] at HI
    rw [e2]
    clear e1 e2
    generalize Lib.compareBytes f.data.toList g.data.toList = z at HS
    go_enter Try.func24, Try.ntmps24
    go_wp2_with fail
    refine HI.out.mono ?_
    rintro e w1 ⟨rfl, rfl⟩
    go_wp2_with fail
    refine HS.out.mono ?_
    rintro e w1 ⟨rfl, rfl⟩
    go_wp2_with fail
    go_ret
    exact ⟨rfl, rfl⟩
  · have e2 : ordK (a, f.toList) (b, g.toList) = cmpI a b := by
      unfold ordK cmpI
      by_cases h : a < b
      · have h2 : kl (a, f.toList) (b, g.toList) = true := kl_iff.2 (.inl h)
        rw [if_pos h, if_pos h2]
      · have h2 : ¬ kl (a, f.toList) (b, g.toList) = true := fun h' => by
          rcases kl_iff.1 h' with h' | ⟨h', _⟩
          · exact h h'
          · exact hab h'
        rw [if_neg h, if_neg h2, if_neg hab, if_neg (fun e => hab (by injection e))]
    have e3 : cmpI a b ≠ 0 := by
      unfold cmpI
      by_cases h : a < b
      · rw [if_pos h]; decide
      · rw [if_neg h, if_neg hab]; decide
    rw [e2]
    have e4 : (cmpI a b != 0) = true := by simp [e3]
    clear e2
    generalize cmpI a b = z at HI e3 e4
    go_enter Try.func24, Try.ntmps24
    go_wp2_with fail
    refine HI.out.mono ?_
    rintro e w1 ⟨rfl, rfl⟩
    go_wp2_with fail
    go_ret
    exact ⟨rfl, rfl⟩
end Go.Proofs.Yteiomafciignkaa
