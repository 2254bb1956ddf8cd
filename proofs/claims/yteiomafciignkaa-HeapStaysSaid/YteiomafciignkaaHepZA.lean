/- slices.symMergeCmpFunc, one element goes right: its walk. -/
import Derived.Test.YteiomafciignkaaHepZ
import Derived.Test.YteiomafciignkaaHepV
set_option linter.unusedVariables false
set_option linter.unusedSimpArgs false
namespace Go.Proofs.Yteiomafciignkaa
set_option maxRecDepth 100000
open Go.RowKit

theorem half_fact (p q : Nat) : ((p : Int) + (q : Int)) / 2 = (((p + q) / 2 : Nat) : Int) := by omega
set_option maxHeartbeats 8000000 in
theorem symm_right (B g n cap : Nat) (xs : List HC) (a b : Nat) (w : World) (h : RowAt B g n cap xs w) (hab : a + 1 < b) (hbn : b ≤ n) (hn : n ≤ 200) (hs : SortedSeg xs (a + 1) b) :
    Calls Try.prog 42 #[.slice (some ⟨g, 0, none⟩) n cap, .int .i64 a, .int .i64 ((a : Int) + 1), .int .i64 b, .func (.func 30) #[] #[]] w (SegEnd B g n cap xs a b w) := by
  have HH := Lib.hid h
  have HS := Lib.hid hs
  have HJ := Lib.hid (fun x y W => jcmp_any x y W)
  clear h hs
  have ha1 : a < 1000 := by omega
  have hb1 : b < 1000 := by omega
  have hone : IntKind.i64.wrap ((a : Int) + 1 - (a : Int)) = 1 := by rw [show (a : Int) + 1 - (a : Int) = 1 by omega]; rfl
  go_enter Try.func42, Try.ntmps42
  go_wp2_with fail
  clear hone
  have hi1 : ∀ k : Nat, k < 1000 → IntKind.i64.wrap ((k : Int) + 1) = (k : Int) + 1 := fun k h => (ifacts k h).2.2.2.2.1
  have hi2 : ∀ k : Nat, k < 1000 → IntKind.i64.wrap ((k : Int) + 1 - 1) = (k : Int) := fun k h => (ifacts k h).2.1
  have hi3 : ∀ k : Nat, k < 1000 → IntKind.i64.wrap (k : Int) = (k : Int) := fun k h => (ifacts k h).2.2.1
  have hi4 : ∀ k : Nat, k < 1000 → wrap64 (k : Int) = (k : Int) := fun k h => (ifacts k h).2.2.2.1
  have hwa := wrap_add
  have HF : Hid (a + 1 < b ∧ b ≤ n ∧ n ≤ 200) := ⟨hab, hbn, hn⟩
  clear hab hbn hn
  go_loopw [10, 11] (fun vi vj wr => ∃ (p q : Nat), vi = .int .i64 ((p : Int) + 1) ∧ vj = .int .i64 q ∧ p < 999 ∧ q < 1000 ∧ Hid (a ≤ p ∧ p + 1 ≤ q ∧ q ≤ b ∧ (a < p → le (at' xs p) (at' xs a)) ∧ (q < b → le (at' xs a) (at' xs q))) ∧ Hid (RowAt B g n cap xs wr ∧ Below B w wr)) (fun vi vj _ => (intOf vj - intOf vi).toNat)
  case atStart => exact ⟨a, b, rfl, rfl, by have := HF.out; omega, hb1, ⟨Nat.le_refl _, by have := HF.out; omega, Nat.le_refl _, fun h => absurd h (Nat.lt_irrefl _), fun h => absurd h (Nat.lt_irrefl _)⟩, HH.out, Below.refl _ _⟩
  case round =>
    obtain ⟨p, q, rfl, rfl, hp1, hq1, hpq, hrel⟩ := hrel
    by_cases hlt : p + 1 < q
    · have hlti : (p : Int) + 1 < (q : Int) := by omega
      obtain ⟨h, hh⟩ : ∃ h, (p + 1 + q) / 2 = h := ⟨_, rfl⟩
      have hhi : ((p : Int) + 1 + (q : Int)) / 2 = (h : Int) := by omega
      have hsum : IntKind.i64.wrap ((p : Int) + 1 + (q : Int)) = (p : Int) + 1 + (q : Int) := IntWalk.i64_in _ (by omega)
      have HHB : Hid (p + 1 ≤ h ∧ h < q) := ⟨by omega, by omega⟩
      have hh1 : h < 1000 := by omega
      have hhn : h < n := by have := HF.out; have := hpq.out; omega
      have hhni : (h : Int) < (n : Int) := by omega
      have hani : (a : Int) < (n : Int) := by have := HF.out; omega
      have hh0 : ¬ (h : Int) < 0 := by omega
      have ha0 : ¬ (a : Int) < 0 := by omega
      obtain ⟨c1, c2, c3⟩ := hrel.out.1.cells (i := h) hhn
      obtain ⟨d1, d2, d3⟩ := hrel.out.1.cells (i := a) (by omega)
      have HC : Hid (∀ W, Calls Try.prog 30 #[.agg #[.int .i64 (at' xs h).a, .string (at' xs h).f, .int .i64 (at' xs h).v], .agg #[.int .i64 (at' xs a).a, .string (at' xs a).f, .int .i64 (at' xs a).v]] W fun e w' => e = .returned (.int .i64 (ordK (hkey (at' xs h)) (hkey (at' xs a)))) ∧ Below W.heap.size W w') := HJ.out _ _
      have HLT : Hid (ordK (hkey (at' xs h)) (hkey (at' xs a)) < 0 → a ≤ h ∧ h + 1 ≤ q ∧ q ≤ b ∧ (a < h → le (at' xs h) (at' xs a)) ∧ (q < b → le (at' xs a) (at' xs q))) := fun ho => by
        have h1 := hpq.out
        have h2 := HHB.out
        exact ⟨by omega, by omega, h1.2.2.1, fun _ => le_of_lt (ordK_lt.1 ho), h1.2.2.2.2⟩
      have HGE : Hid (¬ ordK (hkey (at' xs h)) (hkey (at' xs a)) < 0 → a ≤ p ∧ p + 1 ≤ h ∧ h ≤ b ∧ (a < p → le (at' xs p) (at' xs a)) ∧ (h < b → le (at' xs a) (at' xs h))) := fun ho => by
        have h1 := hpq.out
        have h2 := HHB.out
        exact ⟨h1.1, h2.1, by omega, h1.2.2.2.1, fun _ => fun hk => ho (ordK_lt.2 hk)⟩
      have HRB := Lib.hid (fun d os => (⟨hrel.out.1.below (below_regrown wr d os), regrown_trans hrel.out.2 (Nat.le_of_lt (Nat.lt_of_le_of_lt hrel.out.1.low.1 hrel.out.1.low.2)) d os⟩ : RowAt B g n cap xs (Go.Sort.grow (redrawn wr d) os) ∧ Below B w (Go.Sort.grow (redrawn wr d) os)))
      clear hrel HH HS HJ
      generalize ordK (hkey (at' xs h)) (hkey (at' xs a)) = o at HC HLT HGE
      generalize at' xs h = x at c1 c2 c3 HC
      generalize at' xs a = y at d1 d2 d3 HC HLT HGE
      obtain ⟨xa, xf, xv⟩ := x
      obtain ⟨ya, yf, yv⟩ := y
      simp only at c1 c2 c3 d1 d2 d3
      have cJ := fun d os => Calls.regrown_of (HC.out (Go.Sort.grow (redrawn wr d) os))
      have r1 := fun d os => cell_regrown c1 d os
      have r2 := fun d os => cell_regrown c2 d os
      have r3 := fun d os => cell_regrown c3 d os
      have r4 := fun d os => cell_regrown d1 d os
      have r5 := fun d os => cell_regrown d2 d os
      have r6 := fun d os => cell_regrown d3 d os
      go_wp2_with fail
      refine wp_region_quiet_below (by kernel_rfl) (by kernel_rfl) ?_
      repeat (go_big_quiet_step (with_reducible exact cJ _ _))
      refine wpQuiet_nil ?_
      intro _ hw'
      obtain ⟨⟨dq, osq⟩, hw''⟩ := hw'
      subst hw''
      have HRB := Lib.hid (HRB.out dq osq)
      clear r1 r2 r3 r4 r5 r6 c1 c2 c3 d1 d2 d3 cJ HC
      by_cases ho : o < 0
      · have HL2 := Lib.hid (HLT.out ho)
        clear HLT HGE
        generalize Go.Sort.grow (redrawn wr dq) osq = W0 at HRB ⊢
        go_wp2_with fail
        clear hsum hi1 hi2 hi3 hi4 hwa
        go_roundw
        case rel => exact ⟨h, q, rfl, rfl, by have := HHB.out; omega, hq1, HL2, HRB⟩
        case measure => have := HHB.out; simp [intOf]; omega
      · have HL2 := Lib.hid (HGE.out (by first | exact ho | omega))
        clear HLT HGE
        generalize Go.Sort.grow (redrawn wr dq) osq = W0 at HRB ⊢
        go_wp2_with fail
        clear hsum hi1 hi2 hi3 hi4 hwa
        go_roundw
        case rel => exact ⟨p, h, rfl, rfl, hp1, hh1, HL2, HRB⟩
        case measure => have := HHB.out; simp [intOf]; omega
    · have hlti : ¬ (p : Int) + 1 < (q : Int) := by omega
      have HP : Hid (a ≤ p ∧ p + 1 ≤ b ∧ (a < p → le (at' xs p) (at' xs a)) ∧ (p + 1 < b → le (at' xs a) (at' xs (p + 1)))) := by
        have h1 := hpq.out
        obtain rfl : q = p + 1 := by omega
        exact ⟨h1.1, h1.2.2.1, h1.2.2.2.1, h1.2.2.2.2⟩
      go_wp2_with fail
      clear hpq
      go_loopw [13] (fun vk wk => ∃ (k : Nat) (zs : List HC), vk = .int .i64 k ∧ k ≤ p ∧ Hid (a ≤ k) ∧ Hid (RowAt B g n cap zs wk ∧ Seg xs zs a b ∧ Mov xs zs (rotI a (a + 1) (k + 1)) ∧ Below B w wk)) (fun vk _ => p - (intOf vk).toNat)
      case atStart => exact ⟨a, xs, rfl, HP.out.1, Nat.le_refl _, hrel.out.1, Seg.refl _ _ _, Mov.none (.inr rfl) (by omega) (Nat.le_refl _), hrel.out.2⟩
      case round =>
        obtain ⟨k, zs, rfl, hkp, hak, hrelk⟩ := hrel
        by_cases hk : k < p
        · have hki : (k : Int) < (p : Int) := by omega
          have hkn : k + 1 < n := by have := HF.out; have := HP.out; omega
          have hkni : (k : Int) + 1 < (n : Int) := by omega
          have hkni2 : (k : Int) < (n : Int) := by omega
          have hk0 : ¬ (k : Int) + 1 < 0 := by omega
          have hk1 : k < 1000 := by omega
          have HFIN : Hid (RowAt B g n cap (swp zs k (k + 1)) (put3 (put3 wr g k (at' zs (k + 1))) g (k + 1) (at' zs k)).drew ∧ Seg xs (swp zs k (k + 1)) a b ∧ Mov xs (swp zs k (k + 1)) (rotI a (a + 1) (k + 1 + 1)) ∧ Below B w (put3 (put3 wr g k (at' zs (k + 1))) g (k + 1) (at' zs k)).drew) := by
            obtain ⟨t1, t2, t3, t4⟩ := hrelk.out
            have h0 := HF.out
            have h1 := HP.out
            have h2 := hak.out
            obtain ⟨s1, s2⟩ := t1.swap (i := k) (j := k + 1) (by omega) hkn
            exact ⟨s1.below (Below.refl _ _).drew, t2.swap (by rw [t1.len]; omega) (by rw [t1.len]; omega) ⟨by omega, by omega⟩ ⟨by omega, by omega⟩, t3.stepR h2 (by rw [t1.len]; exact hkn), t4.trans s2.drew⟩
          have HAK : Hid (a ≤ k + 1) := by have := hak.out; exact Nat.le_succ_of_le this
          obtain ⟨c1, c2, c3⟩ := hrelk.out.1.cells (i := k) (by omega)
          obtain ⟨d1, d2, d3⟩ := hrelk.out.1.cells (i := k + 1) hkn
          have f1 := hrelk.out.1.frozen
          clear hrelk HP HH HS HJ hak
          generalize swp zs k (k + 1) = zs' at HFIN
          generalize at' zs k = x at c1 c2 c3 HFIN
          generalize at' zs (k + 1) = y at d1 d2 d3 HFIN
          obtain ⟨xa, xf, xv⟩ := x
          obtain ⟨ya, yf, yv⟩ := y
          simp only at c1 c2 c3 d1 d2 d3
          go_wp2_with fail
          go_region
          all_goals
            clear f1 c1 c2 c3 d1 d2 d3
            go_wp2_with fail
            clear hi1 hi2 hi3 hi4 hwa
            go_roundw
            case rel => exact ⟨k + 1, _, by go_num, hk, HAK, HFIN⟩
            case measure => simp [intOf]; omega
        · obtain rfl : k = p := by omega
          have hki : ¬ (k : Int) < (k : Int) := by omega
          have HE : Hid (SegEnd B g n cap xs a b w (.returned (.tuple #[])) wr) := by
            obtain ⟨t1, t2, t3, t4⟩ := hrelk.out
            obtain ⟨u1, u2, u3, u4⟩ := HP.out
            exact ⟨rfl, zs, t1, t2, one_right HS.out (by omega) u2 (fun h => by rw [Nat.add_sub_cancel]; exact u3 (by omega)) u4 t3, t4⟩
          clear hrelk HP
          go_wp2_with fail
          go_end0
          exact HE.out
end Go.Proofs.Yteiomafciignkaa
