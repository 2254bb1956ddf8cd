/- slices.symMergeCmpFunc, one element goes left: its walk. -/
import Derived.Test.YteiomafciignkaaHepZ
import Derived.Test.YteiomafciignkaaHepV
set_option linter.unusedVariables false
set_option linter.unusedSimpArgs false
namespace Go.Proofs.Yteiomafciignkaa
set_option maxRecDepth 100000
open Go.RowKit

set_option maxHeartbeats 8000000 in
theorem symm_left (B g n cap : Nat) (xs : List HC) (a m : Nat) (w : World) (h : RowAt B g n cap xs w) (ham : a + 1 < m) (hmn : m < n) (hn : n ≤ 200) (hs : SortedSeg xs a m) :
    Calls Try.prog 42 #[.slice (some ⟨g, 0, none⟩) n cap, .int .i64 a, .int .i64 m, .int .i64 ((m : Int) + 1), .func (.func 30) #[] #[]] w (SegEnd B g n cap xs a (m + 1) w) := by
  have HH := Lib.hid h
  have HS := Lib.hid hs
  have HJ := Lib.hid (fun x y W => jcmp_any x y W)
  clear h hs
  have ha1 : a < 1000 := by omega
  have hm1 : m < 1000 := by omega
  have hone : IntKind.i64.wrap ((m : Int) + 1 - (m : Int)) = 1 := by rw [show (m : Int) + 1 - (m : Int) = 1 by omega]; rfl
  have hsb : IntKind.i64.wrap ((m : Int) - (a : Int)) = (m : Int) - (a : Int) := IntWalk.i64_in _ (by omega)
  have hne : ((m : Int) - (a : Int) == 1) = false := by rw [beq_eq_false_iff_ne]; omega
  go_enter Try.func42, Try.ntmps42
  go_wp2_with fail
  clear hone hsb hne
  have hi0 : ∀ k : Nat, k < 1000 → IntKind.i64.wrap (((k + 1 : Nat) : Int) - 1) = (k : Int) := fun k h => (ifacts k h).1
  have hi1 : ∀ k : Nat, k < 1000 → IntKind.i64.wrap ((k : Int) + 1) = (k : Int) + 1 := fun k h => (ifacts k h).2.2.2.2.1
  have hi2 : ∀ k : Nat, k < 1000 → IntKind.i64.wrap ((k : Int) + 1 - 1) = (k : Int) := fun k h => (ifacts k h).2.1
  have hi3 : ∀ k : Nat, k < 1000 → IntKind.i64.wrap (k : Int) = (k : Int) := fun k h => (ifacts k h).2.2.1
  have hi4 : ∀ k : Nat, k < 1000 → wrap64 (k : Int) = (k : Int) := fun k h => (ifacts k h).2.2.2.1
  have hwa := wrap_add
  have HF : Hid (a + 1 < m ∧ m < n ∧ n ≤ 200) := ⟨ham, hmn, hn⟩
  clear ham hn
  go_loopw [14, 15] (fun vi vj wr => ∃ (p q : Nat), vi = .int .i64 p ∧ vj = .int .i64 q ∧ p < 1000 ∧ q < 1000 ∧ Hid (a ≤ p ∧ p ≤ q ∧ q ≤ m ∧ (a < p → le (at' xs (p - 1)) (at' xs m)) ∧ (q < m → le (at' xs m) (at' xs q))) ∧ Hid (RowAt B g n cap xs wr ∧ Below B w wr)) (fun vi vj _ => (intOf vj - intOf vi).toNat)
  case atStart => exact ⟨a, m, rfl, rfl, ha1, hm1, ⟨Nat.le_refl _, by have := HF.out; omega, Nat.le_refl _, fun h => absurd h (Nat.lt_irrefl _), fun h => absurd h (Nat.lt_irrefl _)⟩, HH.out, Below.refl _ _⟩
  case round =>
    obtain ⟨p, q, rfl, rfl, hp1, hq1, hpq, hrel⟩ := hrel
    by_cases hlt : p < q
    · have hlti : (p : Int) < (q : Int) := by omega
      obtain ⟨h, hh⟩ : ∃ h, (p + q) / 2 = h := ⟨_, rfl⟩
      have hhi : ((p : Int) + (q : Int)) / 2 = (h : Int) := by omega
      have hsum : IntKind.i64.wrap ((p : Int) + (q : Int)) = (p : Int) + (q : Int) := IntWalk.i64_in _ (by omega)
      have HHB : Hid (p ≤ h ∧ h < q) := ⟨by omega, by omega⟩
      have hh1 : h < 1000 := by omega
      have hhn : h < n := by have := HF.out; have := hpq.out; omega
      have hhni : (h : Int) < (n : Int) := by omega
      have hmni : (m : Int) < (n : Int) := by omega
      have hh0 : ¬ (h : Int) < 0 := by omega
      have hm0 : ¬ (m : Int) < 0 := by omega
      obtain ⟨c1, c2, c3⟩ := hrel.out.1.cells (i := h) hhn
      obtain ⟨d1, d2, d3⟩ := hrel.out.1.cells (i := m) hmn
      have HC : Hid (∀ W, Calls Try.prog 30 #[.agg #[.int .i64 (at' xs m).a, .string (at' xs m).f, .int .i64 (at' xs m).v], .agg #[.int .i64 (at' xs h).a, .string (at' xs h).f, .int .i64 (at' xs h).v]] W fun e w' => e = .returned (.int .i64 (ordK (hkey (at' xs m)) (hkey (at' xs h)))) ∧ Below W.heap.size W w') := HJ.out _ _
      have HGE : Hid (¬ ordK (hkey (at' xs m)) (hkey (at' xs h)) < 0 → a ≤ h + 1 ∧ h + 1 ≤ q ∧ q ≤ m ∧ (a < h + 1 → le (at' xs h) (at' xs m)) ∧ (q < m → le (at' xs m) (at' xs q))) := fun ho => by
        have h1 := hpq.out
        have h2 := HHB.out
        exact ⟨by omega, by omega, h1.2.2.1, fun _ => fun hk => ho (ordK_lt.2 hk), h1.2.2.2.2⟩
      have HLT : Hid (ordK (hkey (at' xs m)) (hkey (at' xs h)) < 0 → a ≤ p ∧ p ≤ h ∧ h ≤ m ∧ (a < p → le (at' xs (p - 1)) (at' xs m)) ∧ (h < m → le (at' xs m) (at' xs h))) := fun ho => by
        have h1 := hpq.out
        have h2 := HHB.out
        exact ⟨h1.1, h2.1, by omega, h1.2.2.2.1, fun _ => le_of_lt (ordK_lt.1 ho)⟩
      have HRB := Lib.hid (fun d os => (⟨hrel.out.1.below (below_regrown wr d os), regrown_trans hrel.out.2 (Nat.le_of_lt (Nat.lt_of_le_of_lt hrel.out.1.low.1 hrel.out.1.low.2)) d os⟩ : RowAt B g n cap xs (Go.Sort.grow (redrawn wr d) os) ∧ Below B w (Go.Sort.grow (redrawn wr d) os)))
      clear hrel HH HS HJ
      generalize ordK (hkey (at' xs m)) (hkey (at' xs h)) = o at HC HLT HGE
      generalize at' xs h = x at c1 c2 c3 HC
      generalize at' xs m = y at d1 d2 d3 HC HLT HGE
      obtain ⟨xa, xf, xv⟩ := x
      obtain ⟨ya, yf, yv⟩ := y
      simp only at c1 c2 c3 d1 d2 d3
      have cJ := fun d os => Calls.regrown_of (HC.out (Go.Sort.grow (redrawn wr d) os))
      have r1 := fun d os => cell_regrown c1 d os
      have r2 := fun d os => cell_regrown c2 d os
      have r3 := fun d os => cell_regrown c3 d os
      have r4 := fun d os => cell_regrown d1 d os
      have r5 := fun d os => cell_regrown d2 d os
      have r6 := fun d os => cell_regrown d3 d os
      go_wp2_with fail
      refine wp_region_quiet_below (by kernel_rfl) (by kernel_rfl) ?_
      repeat (go_big_quiet_step (with_reducible exact cJ _ _))
      refine wpQuiet_nil ?_
      intro _ hw'
      obtain ⟨⟨dq, osq⟩, hw''⟩ := hw'
      subst hw''
      have HRB := Lib.hid (HRB.out dq osq)
      clear r1 r2 r3 r4 r5 r6 c1 c2 c3 d1 d2 d3 cJ HC
      by_cases ho : o < 0
      · have HL2 := Lib.hid (HLT.out ho)
        have hob : (!decide (o < 0)) = false := by rw [decide_eq_true (show o < 0 by omega)]; rfl
        clear HLT HGE
        generalize Go.Sort.grow (redrawn wr dq) osq = W0 at HRB ⊢
        go_wp2_with fail
        all_goals try (exfalso; rename_i hd; rw [hob] at hd; exact Bool.noConfusion hd)
        clear hsum hi0 hi1 hi2 hi3 hi4 hwa
        go_roundw
        case rel => exact ⟨p, h, rfl, rfl, hp1, hh1, HL2, HRB⟩
        case measure => have := HHB.out; simp [intOf]; omega
      · have HL2 := Lib.hid (HGE.out (by first | exact ho | omega))
        have hob : (!decide (o < 0)) = true := by rw [decide_eq_false (show ¬ o < 0 by omega)]; rfl
        clear HLT HGE
        generalize Go.Sort.grow (redrawn wr dq) osq = W0 at HRB ⊢
        go_wp2_with fail
        all_goals try (exfalso; rename_i hd; rw [hob] at hd; exact Bool.noConfusion hd)
        clear hsum hi0 hi1 hi2 hi3 hi4 hwa
        go_roundw
        case rel => exact ⟨h + 1, q, by go_num, rfl, by have := HHB.out; omega, hq1, HL2, HRB⟩
        case measure => have := HHB.out; simp [intOf]; omega
    · have hlti : ¬ (p : Int) < (q : Int) := by omega
      have HP : Hid (a ≤ p ∧ p ≤ m ∧ (a < p → le (at' xs (p - 1)) (at' xs m)) ∧ (p < m → le (at' xs m) (at' xs p))) := by
        have h1 := hpq.out
        obtain rfl : q = p := by omega
        exact ⟨h1.1, h1.2.2.1, h1.2.2.2.1, h1.2.2.2.2⟩
      go_wp2_with fail
      clear hpq
      go_loopw [17] (fun vk wk => ∃ (k : Nat) (zs : List HC), vk = .int .i64 k ∧ p ≤ k ∧ Hid (k ≤ m) ∧ Hid (RowAt B g n cap zs wk ∧ Seg xs zs a (m + 1) ∧ Mov xs zs (rotI k m (m + 1)) ∧ Below B w wk)) (fun vk _ => (intOf vk).toNat)
      case atStart => exact ⟨m, xs, rfl, HP.out.2.1, Nat.le_refl _, hrel.out.1, Seg.refl _ _ _, Mov.none (.inl rfl) (Nat.le_refl _) (by omega), hrel.out.2⟩
      case round =>
        obtain ⟨k, zs, rfl, hkp, hkm, hrelk⟩ := hrel
        by_cases hk : p < k
        · obtain ⟨k, rfl⟩ : ∃ k', k = k' + 1 := ⟨k - 1, by omega⟩
          have hki : (p : Int) < (k : Int) + 1 := by omega
          have hkn : k + 1 < n := by have := hkm.out; omega
          have hkni : (k : Int) + 1 < (n : Int) := by omega
          have hkni2 : (k : Int) < (n : Int) := by omega
          have hk0 : ¬ (k : Int) + 1 < 0 := by omega
          have hk1 : k < 1000 := by have := HF.out; omega
          have HFIN : Hid (RowAt B g n cap (swp zs (k + 1) k) (put3 (put3 wr g (k + 1) (at' zs k)) g k (at' zs (k + 1))).drew ∧ Seg xs (swp zs (k + 1) k) a (m + 1) ∧ Mov xs (swp zs (k + 1) k) (rotI k m (m + 1)) ∧ Below B w (put3 (put3 wr g (k + 1) (at' zs k)) g k (at' zs (k + 1))).drew) := by
            obtain ⟨t1, t2, t3, t4⟩ := hrelk.out
            have h0 := HF.out
            have h1 := HP.out
            have h2 := hkm.out
            obtain ⟨s1, s2⟩ := t1.swap (i := k + 1) (j := k) hkn (by omega)
            exact ⟨s1.below (Below.refl _ _).drew, t2.swap (by rw [t1.len]; omega) (by rw [t1.len]; omega) ⟨by omega, by omega⟩ ⟨by omega, by omega⟩, t3.stepL h2 (by rw [t1.len]; exact hmn), t4.trans s2.drew⟩
          have HKM : Hid (k ≤ m) := Nat.le_of_succ_le hkm.out
          obtain ⟨c1, c2, c3⟩ := hrelk.out.1.cells (i := k + 1) hkn
          obtain ⟨d1, d2, d3⟩ := hrelk.out.1.cells (i := k) (by omega)
          have f1 := hrelk.out.1.frozen
          clear hrelk HP HH HS HJ hkm
          generalize swp zs (k + 1) k = zs' at HFIN
          generalize at' zs (k + 1) = x at c1 c2 c3 HFIN
          generalize at' zs k = y at d1 d2 d3 HFIN
          obtain ⟨xa, xf, xv⟩ := x
          obtain ⟨ya, yf, yv⟩ := y
          simp only at c1 c2 c3 d1 d2 d3
          go_wp2_with fail
          go_region
          all_goals
            clear f1 c1 c2 c3 d1 d2 d3
            go_wp2_with fail
            clear hi0 hi1 hi2 hi3 hi4 hwa
            go_roundw
            case rel => exact ⟨k, _, by go_num, by omega, HKM, HFIN⟩
            case measure => simp [intOf]
        · obtain rfl : k = p := by omega
          have hki : ¬ (k : Int) < (k : Int) := by omega
          have HE : Hid (SegEnd B g n cap xs a (m + 1) w (.returned (.tuple #[])) wr) := by
            obtain ⟨t1, t2, t3, t4⟩ := hrelk.out
            obtain ⟨u1, u2, u3, u4⟩ := HP.out
            exact ⟨rfl, zs, t1, t2, one_left HS.out u1 u2 u3 u4 t3, t4⟩
          clear hrelk HP
          go_wp2_with fail
          go_end0
          exact HE.out
end Go.Proofs.Yteiomafciignkaa
