/- The document's bytes of a certificate. -/
import Derived.Test.YtgaipfkblfommaaPakL
set_option linter.unusedVariables false
set_option linter.unusedSimpArgs false
namespace Go.Proofs.Ytgaipfkblfommaa
set_option maxRecDepth 100000
open Go.RowKit

set_option maxHeartbeats 8000000 in
theorem rcert_any (x : Reply) (a1 : Option Addr) (cap1 : Nat) (a2 : Option Addr) (cap2 : Nat) (w : World) (hl : Sits lemSh (Lo w.heap.size) w a1 x.lems) (hl2 : Sits clauseSh (Lo w.heap.size) w a2 x.refute) (hsz : (encList encLem x.lems ++ encList encClause x.refute).length ≤ 140000000000000) :
    Calls Try.prog 22 #[.agg #[.slice a1 x.lems.length cap1, .slice a2 x.refute.length cap2]] w (BEnd (encList encLem x.lems ++ encList encClause x.refute) w) := by
  have HA : Hid (Below w.heap.size w (w.alloc (.cells #[.slice a1 x.lems.length cap1, .slice a2 x.refute.length cap2] 48))) := (Below.refl _ _).alloc (Nat.le_refl _) _
  have HL := Lib.hid (hl.below HA.out HA.out.size)
  have HL2 := Lib.hid (hl2.below HA.out HA.out.size)
  have HSZ := Lib.hid hsz
  have hnm := hl.1
  have hnm2 := hl2.1
  have hq : w.heap.size < (w.alloc (.cells #[.slice a1 x.lems.length cap1, .slice a2 x.refute.length cap2] 48)).heap.size := by simp
  have hb0 : (w.alloc (.cells #[.slice a1 x.lems.length cap1, .slice a2 x.refute.length cap2] 48)).cell? ⟨w.heap.size, 0, none⟩ = some (.slice a1 x.lems.length cap1) := (cell_of_row _ _ _ _ _ _ (heap_alloc_new w _)).trans rfl
  have hb1 : (w.alloc (.cells #[.slice a1 x.lems.length cap1, .slice a2 x.refute.length cap2] 48)).cell? ⟨w.heap.size, 1, none⟩ = some (.slice a2 x.refute.length cap2) := (cell_of_row _ _ _ _ _ _ (heap_alloc_new w _)).trans rfl
  have HX0 : Hid (∀ W, Below (w.alloc (.cells #[.slice a1 x.lems.length cap1, .slice a2 x.refute.length cap2] 48)).heap.size (w.alloc (.cells #[.slice a1 x.lems.length cap1, .slice a2 x.refute.length cap2] 48)) W → W.cell? ⟨w.heap.size, 0, none⟩ = some (.slice a1 x.lems.length cap1)) := fun W hW => (hW.cell (p := ⟨_, _, none⟩) hq).trans hb0
  have HX1 : Hid (∀ W, Below (w.alloc (.cells #[.slice a1 x.lems.length cap1, .slice a2 x.refute.length cap2] 48)).heap.size (w.alloc (.cells #[.slice a1 x.lems.length cap1, .slice a2 x.refute.length cap2] 48)) W → W.cell? ⟨w.heap.size, 1, none⟩ = some (.slice a2 x.refute.length cap2)) := fun W hW => (hW.cell (p := ⟨_, _, none⟩) hq).trans hb1
  have HNU := Lib.hid (rnumber_any (x.lems.length : Int) (w.alloc (.cells #[.slice a1 x.lems.length cap1, .slice a2 x.refute.length cap2] 48)) ⟨by omega, by omega⟩)
  clear hl hl2 hsz hb0 hb1
  obtain ⟨yes, lems, refute⟩ := x
  simp only at *
  go_enter Try.func22, Try.ntmps22
  go_wp2_with fail
  generalize w.alloc (.cells #[.slice a1 lems.length cap1, .slice a2 refute.length cap2] 48) = W0 at *
  refine HNU.out.mono ?_
  rintro e w1 ⟨v1, rfl, ho1, hb1⟩
  have R1 : Hid (BRow W0.heap.size (num lems.length ++ (lems.take 0).flatMap encLem) v1 w1) := by show BRow _ _ _ _; simpa using ho1
  have B1 := Lib.hid hb1
  clear ho1 hb1 HNU
  go_wp2_with fail
  go_loopw [3, 4] (fun o i wr => ∃ k : Nat, i = .int .i64 k ∧ k ≤ lems.length ∧ Hid (BRow W0.heap.size (num lems.length ++ (lems.take k).flatMap encLem) o wr) ∧ Hid (Below W0.heap.size W0 wr)) (fun _ i _ => lems.length - (intOf i).toNat)
  case atStart => exact ⟨0, rfl, Nat.zero_le _, R1, B1⟩
  case round =>
    clear R1 B1
    obtain ⟨k, rfl, hk, hrow, hb⟩ := hrel
    have x0 := HX0.out wr hb.out
    by_cases hlt : k < lems.length
    · have hlti : (k : Int) < (lems.length : Int) := by omega
      obtain ⟨b, off, cs, rfl, hbl, hc, v1, v2, rfl, ⟨b1, bcap1, rfl, hsl⟩, ⟨b2, bcap2, rfl, hsl2⟩⟩ := HL.out.2 k hlt
      have hbl : b < W0.heap.size := hbl
      have HC0 : Hid (∀ W, Below W0.heap.size W0 W → W.cell? ⟨b, off + k * 2, none⟩ = some (.slice b1 lems[k].lits.length bcap1)) := fun W hW => (hW.cell (p := ⟨b, _, none⟩) hbl).trans (by simpa [lemSh] using hc 0 _ rfl)
      have HC1 : Hid (∀ W, Below W0.heap.size W0 W → W.cell? ⟨b, off + k * 2 + 1, none⟩ = some (.slice b2 lems[k].steps.length bcap2)) := fun W hW => (hW.cell (p := ⟨b, _, none⟩) hbl).trans (by simpa [lemSh] using hc 1 _ rfl)
      have HS1 := Lib.hid hsl
      have HS2 := Lib.hid hsl2
      have HSN := Lib.hid (pre_snoc encLem lems k hlt)
      have HLE : Hid ((num lems.length ++ (lems.take k).flatMap encLem).length + (encClause lems[k].lits).length + (encList encStep lems[k].steps).length ≤ 140000000000000) := by
        have h1 := pre_le encLem lems (k + 1)
        have h2 := HSZ.out
        rw [pre_snoc encLem lems k hlt] at h1
        have h3 : (encLem lems[k]).length = (encClause lems[k].lits).length + (encList encStep lems[k].steps).length := by unfold encLem; rw [List.length_append]
        show _ ≤ _
        simp only [List.length_append] at h1 h2 ⊢
        omega
      clear hc hsl hsl2
      generalize lems[k] = s at *
      generalize num lems.length ++ (lems.take k).flatMap encLem = base at hrow HSN HLE
      have c0 := HC0.out wr hb.out
      have HNP := Lib.hid (rclause_any b1 s.lits.length bcap1 s.lits wr rfl (HS1.out.below hb.out hb.out.size) (by have := HLE.out; omega))
      go_wp2_with fail
      refine HNP.out.mono ?_
      rintro e w5 ⟨v5, rfl, ho5, hb5⟩
      have HLB : (base).length + (encClause s.lits).length ≤ 140000000000000 := by have := HLE.out; omega
      obtain ⟨v6, w6, hr6, ho6, hb6⟩ := run_cat (hrow.out.below hb5) (BRow.slot ho5 (by omega)) (Nat.le_trans hb.out.size hb5.size) HLB
      have R6 : Hid (BRow W0.heap.size (base ++ encClause s.lits) v6 w6) := ho6
      have B6 := Lib.hid (hb.out.trans ((hb5.mono hb.out.size).trans hb6))
      obtain ⟨a5, cap5, rfl⟩ := ho5.slice
      clear ho5 hb5 ho6 hb6 HLB HNP c0 hrow hb
      have x0 := HX0.out w6 B6.out
      have c1 := HC1.out w6 B6.out
      go_wp2_with (at_builtin; refine Lib.wpList_append_run _ rfl _ _ _ _ rfl _ _ rfl rfl _ _ (hr6 _) ?_)
      clear hr6
      have HNP := Lib.hid (rsteps_any b2 s.steps.length bcap2 s.steps w6 rfl (HS2.out.below B6.out B6.out.size) (by have := HLE.out; omega))
      go_wp2_with fail
      refine HNP.out.mono ?_
      rintro e y5 ⟨z5, rfl, ho5, hb5⟩
      have HLB : (base ++ encClause s.lits).length + (encList encStep s.steps).length ≤ 140000000000000 := by have := HLE.out; rw [List.length_append]; omega
      obtain ⟨z6, y6, hr6, ho6, hb6⟩ := run_cat (R6.out.below hb5) (BRow.slot ho5 (by omega)) (Nat.le_trans B6.out.size hb5.size) HLB
      have R7 : Hid (BRow W0.heap.size (base ++ encClause s.lits ++ encList encStep s.steps) z6 y6) := ho6
      have B7 := Lib.hid (B6.out.trans ((hb5.mono B6.out.size).trans hb6))
      obtain ⟨d5, dcap5, rfl⟩ := ho5.slice
      clear ho5 hb5 ho6 hb6 HLB HNP c1
      go_wp2_with (at_builtin; refine Lib.wpList_append_run _ rfl _ _ _ _ rfl _ _ rfl rfl _ _ (hr6 _) ?_)
      clear hr6
      have R7 : Hid (BRow W0.heap.size (num lems.length ++ (lems.take (k + 1)).flatMap encLem) z6 y6) := by
        show BRow _ _ _ _
        rw [HSN.out]
        unfold encLem
        rw [← List.append_assoc]
        exact R7.out
      go_roundw
      case rel => exact ⟨k + 1, by go_num, by omega, R7, B7⟩
      case measure => simp [intOf]; omega
    · have hlti : ¬ (k : Int) < (lems.length : Int) := by omega
      obtain rfl : k = lems.length := by omega
      have hrow : Hid (BRow W0.heap.size (encList encLem lems) u3 wr) := by have := hrow.out; rw [pre_all] at this; exact this
      have x1 := HX1.out wr hb.out
      have HNP := Lib.hid (rnumber_any (refute.length : Int) wr ⟨by omega, by omega⟩)
      go_wp2_with fail
      refine HNP.out.mono ?_
      rintro e w5 ⟨v5, rfl, ho5, hb5⟩
      have HLB : (encList encLem lems).length + (num refute.length).length ≤ 140000000000000 := by have := HSZ.out; unfold encList at this ⊢; simp only [List.length_append] at this ⊢; omega
      obtain ⟨v6, w6, hr6, ho6, hb6⟩ := run_cat (hrow.out.below hb5) (BRow.slot ho5 (by omega)) (Nat.le_trans hb.out.size hb5.size) HLB
      have R6 : Hid (BRow W0.heap.size (encList encLem lems ++ num refute.length) v6 w6) := ho6
      have B6 := Lib.hid (hb.out.trans ((hb5.mono hb.out.size).trans hb6))
      obtain ⟨a5, cap5, rfl⟩ := ho5.slice
      clear ho5 hb5 ho6 hb6 HLB HNP hrow hb x0 x1
      go_wp2_with (at_builtin; refine Lib.wpList_append_run _ rfl _ _ _ _ rfl _ _ rfl rfl _ _ (hr6 _) ?_)
      clear hr6
      have R6 : Hid (BRow W0.heap.size (encList encLem lems ++ (num refute.length ++ (refute.take 0).flatMap encClause)) v6 w6) := by simpa using R6
      go_loopw [3, 5] (fun o i wr => ∃ j : Nat, i = .int .i64 j ∧ j ≤ refute.length ∧ Hid (BRow W0.heap.size (encList encLem lems ++ (num refute.length ++ (refute.take j).flatMap encClause)) o wr) ∧ Hid (Below W0.heap.size W0 wr)) (fun _ i _ => refute.length - (intOf i).toNat)
      case atStart => exact ⟨0, rfl, Nat.zero_le _, R6, B6⟩
      case round =>
        clear R6 B6
        obtain ⟨j, rfl, hj, hrow, hb⟩ := hrel
        have x1 := HX1.out wr hb.out
        by_cases hjlt : j < refute.length
        · have hjlti : (j : Int) < (refute.length : Int) := by omega
          obtain ⟨b, off, cs, rfl, hbl, hc, v1, rfl, ⟨b1, bcap1, rfl, hsl⟩⟩ := HL2.out.2 j hjlt
          have hbl : b < W0.heap.size := hbl
          have c0 : wr.cell? ⟨b, off + j, none⟩ = some (.slice b1 refute[j].length bcap1) := (hb.out.cell (p := ⟨b, _, none⟩) hbl).trans (by simpa [clauseSh] using hc 0 _ rfl)
          have HPS := Lib.hid (pre_snoc encClause refute j hjlt)
          have HPL : Hid ((encList encLem lems ++ (num refute.length ++ (refute.take j).flatMap encClause)).length + (encClause refute[j]).length ≤ 140000000000000) := by
            have h1 := HSZ.out
            have h2 := pre_le encClause refute (j + 1)
            rw [pre_snoc encClause refute j hjlt] at h2
            simp only [List.length_append] at h1 h2
            show _ ≤ _
            simp only [List.length_append]
            omega
          have HNP := Lib.hid (rclause_any b1 refute[j].length bcap1 refute[j] wr rfl (hsl.below hb.out hb.out.size) (by have := HPL.out; omega))
          clear hc hsl
          generalize refute[j] = s at *
          go_wp2_with fail
          refine HNP.out.mono ?_
          rintro e w5 ⟨v5, rfl, ho5, hb5⟩
          have HLB : (encList encLem lems ++ (num refute.length ++ (refute.take j).flatMap encClause)).length + (encClause s).length ≤ 140000000000000 := HPL.out
          obtain ⟨v6, w6, hr6, ho6, hb6⟩ := run_cat (hrow.out.below hb5) (BRow.slot ho5 (by omega)) (Nat.le_trans hb.out.size hb5.size) HLB
          have R6 : Hid (BRow W0.heap.size (encList encLem lems ++ (num refute.length ++ (refute.take j).flatMap encClause) ++ encClause s) v6 w6) := ho6
          have B6 := Lib.hid (hb.out.trans ((hb5.mono hb.out.size).trans hb6))
          obtain ⟨a5, cap5, rfl⟩ := ho5.slice
          clear ho5 hb5 ho6 hb6 HLB HNP c0 x1 hrow hb
          go_wp2_with (at_builtin; refine Lib.wpList_append_run _ rfl _ _ _ _ rfl _ _ rfl rfl _ _ (hr6 _) ?_)
          clear hr6
          have R6 : Hid (BRow W0.heap.size (encList encLem lems ++ (num refute.length ++ (refute.take (j + 1)).flatMap encClause)) v6 w6) := by show BRow _ _ _ _; rw [HPS.out, ← List.append_assoc]; exact R6.out
          go_roundw
          case rel => exact ⟨j + 1, by go_num, by omega, R6, B6⟩
          case measure => simp [intOf]; omega
        · have hjlti : ¬ (j : Int) < (refute.length : Int) := by omega
          obtain rfl : j = refute.length := by omega
          have HE : Hid (BEnd (encList encLem lems ++ encList encClause refute) w (.returned u3) wr) := ⟨_, rfl, by have := hrow.out; rw [pre_all] at this; exact this.lower HA.out.size, HA.out.trans (hb.out.mono HA.out.size)⟩
          clear hrow hb
          go_wp2_with fail
          go_ret
          exact HE.out
end Go.Proofs.Ytgaipfkblfommaa
