/- Whether a witness is short; PackWrites: its walk. -/
import Derived.Test.YtgaipfkblfommaaPakVb
set_option linter.unusedVariables false
set_option linter.unusedSimpArgs false
namespace Go.Proofs.Ytgaipfkblfommaa
set_option maxRecDepth 100000
open Go.RowKit

set_option maxHeartbeats 8000000 in
theorem rlight_any (a : Option Addr) (n cap : Nat) (xs : List Rec) (w : World) (hn : xs.length = n) (hl : Sits recSh (Lo w.heap.size) w a xs) :
    Calls Try.prog 8 #[.agg #[.slice a n cap]] w (LEnd (LW xs) w) := by
  have HA : Hid (Below w.heap.size w (w.alloc (.cells #[.slice a n cap] 24))) := (Below.refl _ _).alloc (Nat.le_refl _) _
  have HL := Lib.hid (hl.below HA.out HA.out.size)
  have HN := Lib.hid hn
  have hq : w.heap.size < (w.alloc (.cells #[.slice a n cap] 24)).heap.size := by simp
  have hb0 : (w.alloc (.cells #[.slice a n cap] 24)).cell? ⟨w.heap.size, 0, none⟩ = some (.slice a n cap) := (cell_of_row _ _ _ _ _ _ (heap_alloc_new w _)).trans rfl
  have HX0 : Hid (∀ W, Below (w.alloc (.cells #[.slice a n cap] 24)).heap.size (w.alloc (.cells #[.slice a n cap] 24)) W → W.cell? ⟨w.heap.size, 0, none⟩ = some (.slice a n cap)) := fun W hW => (hW.cell (p := ⟨_, _, none⟩) hq).trans hb0
  have HF : Hid (∀ W, Below (w.alloc (.cells #[.slice a n cap] 24)).heap.size (w.alloc (.cells #[.slice a n cap] 24)) W → LEnd (LW xs) w (.returned (.bool false)) W) := fun W hW => ⟨_, rfl, HA.out.trans (hW.mono HA.out.size), fun h => by cases h⟩
  have HT : Hid (∀ W, Below (w.alloc (.cells #[.slice a n cap] 24)).heap.size (w.alloc (.cells #[.slice a n cap] 24)) W → LW xs → LEnd (LW xs) w (.returned (.bool true)) W) := fun W hW h => ⟨_, rfl, HA.out.trans (hW.mono HA.out.size), fun _ => h⟩
  clear hl hn
  by_cases hb1 : (20 : Int) < (n : Int)
  · have HE := Lib.hid (HF.out _ (Below.refl _ _))
    go_enter Try.func8, Try.ntmps8
    go_wp2_with fail
    go_ret
    exact HE.out
  · go_enter Try.func8, Try.ntmps8
    go_wp2_with fail
    generalize w.alloc (.cells #[.slice a n cap] 24) = W0 at *
    clear hb0
    go_loopw [3] (fun i wr => ∃ k : Nat, i = .int .i64 k ∧ k ≤ n ∧ Hid (∀ j (hj : j < xs.length), j < k → LR xs[j]) ∧ Hid (Below W0.heap.size W0 wr)) (fun i _ => n - (intOf i).toNat)
    case atStart => exact ⟨0, rfl, Nat.zero_le _, fun j _ hj => absurd hj (Nat.not_lt_zero j), Below.refl _ _⟩
    case round =>
      obtain ⟨k, rfl, hk, hok, hb⟩ := hrel
      have x0 := HX0.out wr hb.out
      by_cases hlt : k < n
      · have hlti : (k : Int) < (n : Int) := by omega
        have hkx : k < xs.length := by rw [HN.out]; exact hlt
        obtain ⟨b, off, cs, rfl, hbl, hc, v1, rfl, ⟨b1, bcap1, rfl, hsl⟩⟩ := HL.out.2 k hkx
        have hbl : b < W0.heap.size := hbl
        have c0 : wr.cell? ⟨b, off + k * 2, none⟩ = some (.string xs[k].name) := (hb.out.cell (p := ⟨b, _, none⟩) hbl).trans (by simpa [recSh] using hc 0 _ rfl)
        have c1 : wr.cell? ⟨b, off + k * 2 + 1, none⟩ = some (.slice b1 xs[k].reps.length bcap1) := (hb.out.cell (p := ⟨b, _, none⟩) hbl).trans (by simpa [recSh] using hc 1 _ rfl)
        have HS1 := Lib.hid hsl
        have hrm := hsl.1
        have HNX : Hid (LR xs[k] → ∀ j (hj : j < xs.length), j < k + 1 → LR xs[j]) := fun h j hj hjk => by
          by_cases e : j = k
          · subst e; exact h
          · exact hok.out j hj (by omega)
        clear hc hsl hok
        generalize xs[k] = s at *
        have HBA : Hid (Below wr.heap.size wr (wr.alloc (.cells #[.string s.name, .slice b1 s.reps.length bcap1] 37))) := (Below.refl _ _).alloc (Nat.le_refl _) _
        have hnw := heap_alloc_new wr (.cells #[.string s.name, .slice b1 s.reps.length bcap1] 37)
        have y1 : (wr.alloc (.cells #[.string s.name, .slice b1 s.reps.length bcap1] 37)).cell? ⟨wr.heap.size, 1, none⟩ = some (.slice b1 s.reps.length bcap1) := (cell_of_row _ _ _ _ _ _ hnw).trans rfl
        have hwq : wr.heap.size < (wr.alloc (.cells #[.string s.name, .slice b1 s.reps.length bcap1] 37)).heap.size := by simp
        have HY1 : Hid (∀ W, Below (wr.alloc (.cells #[.string s.name, .slice b1 s.reps.length bcap1] 37)).heap.size (wr.alloc (.cells #[.string s.name, .slice b1 s.reps.length bcap1] 37)) W → W.cell? ⟨wr.heap.size, 1, none⟩ = some (.slice b1 s.reps.length bcap1)) := fun W hW => (hW.cell (p := ⟨_, _, none⟩) hwq).trans y1
        have HB2 : Hid (∀ W, Below (wr.alloc (.cells #[.string s.name, .slice b1 s.reps.length bcap1] 37)).heap.size (wr.alloc (.cells #[.string s.name, .slice b1 s.reps.length bcap1] 37)) W → Below W0.heap.size W0 W) := fun W hW => hb.out.trans ((HBA.out.mono hb.out.size).trans (hW.mono (Nat.le_trans hb.out.size HBA.out.size)))
        have HFE := Lib.hid (HF.out _ (HB2.out _ (Below.refl _ _)))
        clear hnw y1 hwq
        by_cases hc1 : (20 : Int) < (s.reps.length : Int)
        · go_wp2_with fail
          go_ret
          exact HFE.out
        · by_cases hc2 : (5000 : Int) < (s.name.size : Int)
          · go_wp2_with fail
            go_ret
            exact HFE.out
          · clear HFE
            go_wp2_with fail
            generalize hW1 : wr.alloc (.cells #[.string s.name, .slice b1 s.reps.length bcap1] 37) = W1 at *
            generalize wr.heap.size = h at *
            clear c0 c1 x0 hb HBA
            go_loopw [5] (fun i W => ∃ q : Nat, i = .int .i64 q ∧ q ≤ s.reps.length ∧ Hid (∀ j (hj : j < s.reps.length), j < q → LC s.reps[j].lems s.reps[j].refute) ∧ Hid (Below W1.heap.size W1 W)) (fun i _ => s.reps.length - (intOf i).toNat)
            case atStart => exact ⟨0, rfl, Nat.zero_le _, fun j _ hj => absurd hj (Nat.not_lt_zero j), Below.refl _ _⟩
            case round =>
              obtain ⟨q, rfl, hq, hok, hb⟩ := hrel
              have s1 := HY1.out _ hb.out
              by_cases hqlt : q < s.reps.length
              · have hqlti : (q : Int) < (s.reps.length : Int) := by omega
                have hbw := HB2.out _ hb.out
                obtain ⟨b2, off2, cs, rfl, hbl2, hc, v1, v2, rfl, ⟨q1, qcap1, rfl, hsl⟩, ⟨q2, qcap2, rfl, hsl2⟩⟩ := HS1.out.2 q hqlt
                have hbl2 : b2 < W0.heap.size := hbl2
                have d1 : wr.cell? ⟨b2, off2 + q * 3 + 1, none⟩ = some (.slice q1 s.reps[q].lems.length qcap1) := (hbw.cell (p := ⟨b2, _, none⟩) hbl2).trans (by simpa [replySh] using hc 1 _ rfl)
                have d2 : wr.cell? ⟨b2, off2 + q * 3 + 1 + 1, none⟩ = some (.slice q2 s.reps[q].refute.length qcap2) := (hbw.cell (p := ⟨b2, _, none⟩) hbl2).trans (by simpa [replySh] using hc 2 _ rfl)
                have HC := Lib.hid (rlight10_any _ _ q1 qcap1 q2 qcap2 wr (hsl.below hbw hbw.size) (hsl2.below hbw hbw.size))
                have HNQ : Hid (LC s.reps[q].lems s.reps[q].refute → ∀ j (hj : j < s.reps.length), j < q + 1 → LC s.reps[j].lems s.reps[j].refute) := fun h j hj hjk => by
                  by_cases e : j = q
                  · subst e; exact h
                  · exact hok.out j hj (by omega)
                clear hc hsl hsl2 hok hbw
                generalize s.reps[q] = y at d1 d2 HC HNQ
                go_wp2_with fail
                refine HC.out.mono ?_
                rintro e w5 ⟨bb, rfl, hb5, hbe⟩
                have HBW := Lib.hid (hb.out.trans (hb5.mono hb.out.size))
                cases bb with
                | false =>
                  have HE := Lib.hid (HF.out _ (HB2.out _ HBW.out))
                  clear hb5 hbe HC HNQ
                  go_wp2_with fail
                  go_ret
                  exact HE.out
                | true =>
                  have HK := Lib.hid (HNQ.out (hbe rfl))
                  clear hb5 hbe HC HNQ
                  go_wp2_with fail
                  go_roundw
                  case rel => exact ⟨q + 1, by go_num, by omega, HK, HBW⟩
                  case measure => simp [intOf]; omega
              · have hqlti : ¬ (q : Int) < (s.reps.length : Int) := by omega
                have HK := Lib.hid (HNX.out ⟨by omega, by omega, mem_of_lt fun j hj => hok.out j hj (by omega)⟩)
                have HBW := Lib.hid (HB2.out _ hb.out)
                clear hok HNX
                go_wp2_with fail
                go_roundw
                case rel => exact ⟨k + 1, by go_num, by omega, HK, HBW⟩
                case measure => simp [intOf]; omega
      · have hlti : ¬ (k : Int) < (n : Int) := by omega
        have HE := Lib.hid (HT.out _ hb.out ⟨by rw [HN.out]; omega, mem_of_lt fun j hj => hok.out j hj (by rw [HN.out] at hj; omega)⟩)
        clear hok
        go_wp2_with fail
        go_ret
        exact HE.out
end Go.Proofs.Ytgaipfkblfommaa
