/- The document's bytes of steps. -/
import Derived.Test.YtgaipfkblfommaaPakK
set_option linter.unusedVariables false
set_option linter.unusedSimpArgs false
namespace Go.Proofs.Ytgaipfkblfommaa
set_option maxRecDepth 100000
open Go.RowKit

set_option maxHeartbeats 8000000 in
theorem rsteps_any (a : Option Addr) (n cap : Nat) (xs : List Step) (w : World) (hn : xs.length = n) (hl : Sits stepSh (Lo w.heap.size) w a xs) (hsz : (encList encStep xs).length ≤ 140000000000000) :
    Calls Try.prog 36 #[.slice a n cap] w (BEnd (encList encStep xs) w) := by
  have HL := Lib.hid hl
  have HN := Lib.hid hn
  have HSZ := Lib.hid hsz
  have hnm : n ≤ 9223372036854775807 := by rw [← hn]; exact hl.1
  have HNU := Lib.hid (rnumber_any (n : Int) w ⟨by omega, by omega⟩)
  clear hl hn hsz
  go_enter Try.func36, Try.ntmps36
  go_wp2_with fail
  refine HNU.out.mono ?_
  rintro e w1 ⟨v1, rfl, ho1, hb1⟩
  have R1 : Hid (BRow w.heap.size (num xs.length ++ (xs.take 0).flatMap encStep) v1 w1) := by show BRow _ _ _ _; rw [HN.out]; simpa using ho1
  have B1 := Lib.hid hb1
  clear ho1 hb1 HNU
  go_wp2_with fail
  go_loopw [3, 4] (fun o i wr => ∃ k : Nat, i = .int .i64 k ∧ k ≤ n ∧ Hid (BRow w.heap.size (num xs.length ++ (xs.take k).flatMap encStep) o wr) ∧ Hid (Below w.heap.size w wr)) (fun _ i _ => n - (intOf i).toNat)
  case atStart => exact ⟨0, rfl, Nat.zero_le _, R1, B1⟩
  case round =>
    clear R1 B1
    obtain ⟨k, rfl, hk, hrow, hb⟩ := hrel
    by_cases hlt : k < n
    · have hlti : (k : Int) < (n : Int) := by omega
      have hkx : k < xs.length := by rw [HN.out]; exact hlt
      obtain ⟨b, off, cs, rfl, hbl, hc, v, rfl, hd, sa, scap, rfl, hsl⟩ := HL.out.2 k hkx
      have hbl : b < w.heap.size := hbl
      have HC0 : Hid (∀ W, Below w.heap.size w W → W.cell? ⟨b, off + k * 2, none⟩ = some (.slice sa xs[k].parts.length scap)) := fun W hW => (hW.cell (p := ⟨b, _, none⟩) hbl).trans (by simpa [stepSh] using hc 0 _ rfl)
      have HC1 : Hid (∀ W, Below w.heap.size w W → W.cell? ⟨b, off + k * 2 + 1, none⟩ = some (.int .i64 xs[k].div)) := fun W hW => (hW.cell (p := ⟨b, _, none⟩) hbl).trans (by simpa [stepSh] using hc 1 _ rfl)
      have HSL := Lib.hid hsl
      have HD := Lib.hid hd
      have HSN := Lib.hid (pre_snoc encStep xs k hkx)
      have HLE : Hid ((num xs.length ++ (xs.take k).flatMap encStep).length + (encStep xs[k]).length ≤ 140000000000000) := by
        have := Nat.le_trans (pre_le encStep xs (k + 1)) HSZ.out
        rwa [pre_snoc encStep xs k hkx, List.length_append] at this
      have hpm := hsl.1
      clear hc hsl hd
      generalize xs[k] = s at *
      generalize num xs.length ++ (xs.take k).flatMap encStep = base at hrow HSN HLE
      have c0 := HC0.out wr hb.out
      have HNP := Lib.hid (rnumber_any (s.parts.length : Int) wr ⟨by omega, by omega⟩)
      go_wp2_with fail
      refine HNP.out.mono ?_
      rintro e w5 ⟨v5, rfl, ho5, hb5⟩
      have HLB : (base).length + (num s.parts.length).length ≤ 140000000000000 := by have := HLE.out; unfold encStep encList at this; simp only [List.length_append] at this; omega
      obtain ⟨v6, w6, hr6, ho6, hb6⟩ := run_cat (hrow.out.below hb5) (BRow.slot ho5 (by omega)) (Nat.le_trans hb.out.size hb5.size) HLB
      have R6 : Hid (BRow w.heap.size (base ++ num s.parts.length) v6 w6) := ho6
      have B6 := Lib.hid (hb.out.trans ((hb5.mono hb.out.size).trans hb6))
      obtain ⟨a5, cap5, rfl⟩ := ho5.slice
      clear ho5 hb5 ho6 hb6 HLB HNP c0 hrow hb
      go_wp2_with (at_builtin; refine Lib.wpList_append_run _ rfl _ _ _ _ rfl _ _ rfl rfl _ _ (hr6 _) ?_)
      clear hr6
      have R6 : Hid (BRow w.heap.size (base ++ (num s.parts.length ++ (s.parts.take 0).flatMap encPart)) v6 w6) := by simpa using R6
      go_loopw [3, 5] (fun o i wr => ∃ j : Nat, i = .int .i64 j ∧ j ≤ s.parts.length ∧ Hid (BRow w.heap.size (base ++ (num s.parts.length ++ (s.parts.take j).flatMap encPart)) o wr) ∧ Hid (Below w.heap.size w wr)) (fun _ i _ => s.parts.length - (intOf i).toNat)
      case atStart => exact ⟨0, rfl, Nat.zero_le _, R6, B6⟩
      case round =>
        clear R6 B6
        obtain ⟨j, rfl, hj, hrow, hb⟩ := hrel
        have c0 := HC0.out wr hb.out
        by_cases hjlt : j < s.parts.length
        · have hjlti : (j : Int) < (s.parts.length : Int) := by omega
          obtain ⟨b2, off2, cs, rfl, hbl2, hc, rfl, hi1, hi2⟩ := HSL.out.2 j hjlt
          have hbl2 : b2 < w.heap.size := hbl2
          have HP0 : Hid (∀ W, Below w.heap.size w W → W.cell? ⟨b2, off2 + j * 2, none⟩ = some (.int .i64 s.parts[j].line)) := fun W hW => (hW.cell (p := ⟨b2, _, none⟩) hbl2).trans (by simpa [partSh] using hc 0 _ rfl)
          have HP1 : Hid (∀ W, Below w.heap.size w W → W.cell? ⟨b2, off2 + j * 2 + 1, none⟩ = some (.int .i64 s.parts[j].times)) := fun W hW => (hW.cell (p := ⟨b2, _, none⟩) hbl2).trans (by simpa [partSh] using hc 1 _ rfl)
          have HPS := Lib.hid (pre_snoc encPart s.parts j hjlt)
          have HPL : Hid ((base ++ (num s.parts.length ++ (s.parts.take j).flatMap encPart)).length + (encPart s.parts[j]).length ≤ 140000000000000) := by
            have h1 := HLE.out
            have h2 := pre_le encPart s.parts (j + 1)
            rw [pre_snoc encPart s.parts j hjlt] at h2
            unfold encStep at h1
            simp only [List.length_append] at h1 h2
            show _ ≤ _
            simp only [List.length_append]
            omega
          clear hc
          generalize s.parts[j] = p at *
          have HPS : Hid (base ++ (num s.parts.length ++ (s.parts.take (j + 1)).flatMap encPart) = base ++ (num s.parts.length ++ (s.parts.take j).flatMap encPart) ++ num p.line ++ num p.times) := by
            show _ = _
            rw [HPS.out]
            unfold encPart
            simp only [List.append_assoc]
          generalize base ++ (num s.parts.length ++ (s.parts.take j).flatMap encPart) = inn at hrow HPS HPL
          have p0 := HP0.out wr hb.out
          have HN1 := Lib.hid (rnumber_any p.line wr hi1)
          go_wp2_with fail
          refine HN1.out.mono ?_
          rintro e w5 ⟨v5, rfl, ho5, hb5⟩
          have HLB : (inn).length + (num p.line).length ≤ 140000000000000 := by have := HPL.out; unfold encPart at this; simp only [List.length_append] at this; omega
          obtain ⟨v6, w6, hr6, ho6, hb6⟩ := run_cat (hrow.out.below hb5) (BRow.slot ho5 (by omega)) (Nat.le_trans hb.out.size hb5.size) HLB
          have R6 : Hid (BRow w.heap.size (inn ++ num p.line) v6 w6) := ho6
          have B6 := Lib.hid (hb.out.trans ((hb5.mono hb.out.size).trans hb6))
          obtain ⟨a5, cap5, rfl⟩ := ho5.slice
          clear ho5 hb5 ho6 hb6 HLB HN1 c0 p0 hrow hb
          have c0 := HC0.out w6 B6.out
          have p1 := HP1.out w6 B6.out
          go_wp2_with (at_builtin; refine Lib.wpList_append_run _ rfl _ _ _ _ rfl _ _ rfl rfl _ _ (hr6 _) ?_)
          clear hr6
          have HN1 := Lib.hid (rnumber_any p.times w6 hi2)
          go_wp2_with fail
          refine HN1.out.mono ?_
          rintro e y5 ⟨z5, rfl, ho5, hb5⟩
          have HLB : (inn ++ num p.line).length + (num p.times).length ≤ 140000000000000 := by have := HPL.out; unfold encPart at this; simp only [List.length_append] at this ⊢; omega
          obtain ⟨z6, y6, hr6, ho6, hb6⟩ := run_cat (R6.out.below hb5) (BRow.slot ho5 (by omega)) (Nat.le_trans B6.out.size hb5.size) HLB
          have R7 : Hid (BRow w.heap.size (inn ++ num p.line ++ num p.times) z6 y6) := ho6
          have B7 := Lib.hid (B6.out.trans ((hb5.mono B6.out.size).trans hb6))
          obtain ⟨d5, dcap5, rfl⟩ := ho5.slice
          clear ho5 hb5 ho6 hb6 HLB HN1 c0 p1
          go_wp2_with (at_builtin; refine Lib.wpList_append_run _ rfl _ _ _ _ rfl _ _ rfl rfl _ _ (hr6 _) ?_)
          clear hr6
          have R7 : Hid (BRow w.heap.size (base ++ (num s.parts.length ++ (s.parts.take (j + 1)).flatMap encPart)) z6 y6) := by show BRow _ _ _ _; rw [HPS.out]; exact R7.out
          go_roundw
          case rel => exact ⟨j + 1, by go_num, by omega, R7, B7⟩
          case measure => simp [intOf]; omega
        · have hjlti : ¬ (j : Int) < (s.parts.length : Int) := by omega
          have hjj : j = s.parts.length := by omega
          have hrow : Hid (BRow w.heap.size (base ++ encList encPart s.parts) u3 wr) := by have := hrow.out; rw [hjj, pre_all] at this; exact this
          have c1 := HC1.out wr hb.out
          have HN1 := Lib.hid (rnumber_any s.div wr HD.out)
          go_wp2_with fail
          refine HN1.out.mono ?_
          rintro e w5 ⟨v5, rfl, ho5, hb5⟩
          have HLB : (base ++ encList encPart s.parts).length + (num s.div).length ≤ 140000000000000 := by have := HLE.out; unfold encStep at this; simp only [List.length_append] at this ⊢; omega
          obtain ⟨v6, w6, hr6, ho6, hb6⟩ := run_cat (hrow.out.below hb5) (BRow.slot ho5 (by omega)) (Nat.le_trans hb.out.size hb5.size) HLB
          have R7 : Hid (BRow w.heap.size (base ++ encList encPart s.parts ++ num s.div) v6 w6) := ho6
          have B7 := Lib.hid (hb.out.trans ((hb5.mono hb.out.size).trans hb6))
          obtain ⟨a5, cap5, rfl⟩ := ho5.slice
          clear ho5 hb5 ho6 hb6 HLB HN1 c0 c1
          go_wp2_with (at_builtin; refine Lib.wpList_append_run _ rfl _ _ _ _ rfl _ _ rfl rfl _ _ (hr6 _) ?_)
          clear hr6
          have R7 : Hid (BRow w.heap.size (num xs.length ++ (xs.take (k + 1)).flatMap encStep) v6 w6) := by show BRow _ _ _ _; rw [HSN.out]; unfold encStep; rw [← List.append_assoc]; exact R7.out
          go_roundw
          case rel => exact ⟨k + 1, by go_num, by omega, R7, B7⟩
          case measure => simp [intOf]; omega
    · have hlti : ¬ (k : Int) < (n : Int) := by omega
      obtain rfl : k = n := by omega
      have HE : Hid (BEnd (encList encStep xs) w (.returned u3) wr) := ⟨_, rfl, by have := hrow.out; rw [← HN.out, pre_all] at this; exact this, hb.out⟩
      clear hrow hb
      go_wp2_with fail
      go_ret
      exact HE.out
end Go.Proofs.Ytgaipfkblfommaa
