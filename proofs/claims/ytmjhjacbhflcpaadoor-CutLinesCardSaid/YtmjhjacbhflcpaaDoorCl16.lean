/- CutLong, the third kind. How the arguments of layer 1 read: a list of terms, a form. -/
import Derived.Test.YtmjhjacbhflcpaaDoorCl01
import Derived.Test.YtmjhjacbhflcpaaDoorCl15
import Derived.Test.YtmjhjacbhflcpaaDoorRows
import Derived.ProofKit
import Derived.OpenShut
import Derived.ChangeOld
import Derived.Deep.Slices
import Derived.Deep.Fields
import Derived.Lib.SmallJoins
set_option linter.unusedVariables false
set_option linter.unusedSimpArgs false
namespace Go.Proofs.YtmjhjacbhflcpaaDoor
open Go.RowKit Go.Maps

set_option maxRecDepth 100000 in
set_option maxHeartbeats 1000000 in
theorem long2p_n (hup : UpSaid4) (n which : Int) (m : Nat) (w : World) (h1 : n ≤ 5000) (hm : n = m) (hk : which.tmod 3 = 2) (hg : Laid0 w) :
    Calls Tryd.prog 5 #[.int .i64 n, .int .i64 which] w fun e w' => e = .returned (.bool true) ∧ Below w.heap.size w w' := by
  have HUP := Lib.hid (fun W => hup W)
  subst hm
  have hm5 : m ≤ 5000 := by omega
  have hm0 : ¬ (m : Int) < 0 := by omega
  have hl1 := (lines_k2 m).1
  have hl2 := (lines_k2 m).2
  have hmk := fun W => run_make_parts W (m : Int) m rfl (by omega)
  have hmk1 := fun W => run_make_lins2 W 1 1 rfl (by omega)
  have HLD := Lib.hid hg
  clear hg
  have e1 := fun W => Tryd.eqCode 2 2 W
  have HBA := Lib.hid (fun (W : World) (o : Obj) => (Below.refl W.heap.size W).alloc (Nat.le_refl _) o)
  clear hup
  go_enter Tryd.func5, Tryd.ntmps5
  go_wp2_with fail
  refine (HUP.out _).mono ?_
  rintro e w1 ⟨rfl, hb1⟩
  have B1 := Lib.hid hb1
  clear hb1
  go_wp2_with fail
  have P0 := Lib.hid (PSt.start B1.out m 41)
  generalize w1.alloc (.cells (madeCells #[.int .i64 0, .int .i64 0] (m * 2)) 41) = w2 at P0 ⊢
  generalize w1.heap.size = N at P0 ⊢
  clear hmk
  go_loopw [11] (fun i wr => ∃ (k : Nat), k ≤ m ∧ i = .int .i64 k ∧ Hid (PSt w wr N m k)) (fun i _ => m - (intOf i).toNat)
  case atStart => exact ⟨0, Nat.zero_le _, rfl, P0⟩
  case round =>
    clear P0
    obtain ⟨k, hk, rfl, hst⟩ := hrel
    by_cases hlt : k < m
    · have hltz : (k : Int) < (m : Int) := by omega
      obtain ⟨g1, _, z, g3⟩ := hst.out.at' k hlt
      have hf := hst.out.fz
      have PN := Lib.hid (hst.out.step hlt)
      clear g1
      go_wp2_with fail
      refine ⟨⟨k + 1, by omega, by go_num, PN⟩, by simp [intOf]; omega⟩
    · obtain rfl : k = m := by omega
      have hltz : ¬ ((k : Nat) : Int) < (k : Int) := by omega
      obtain ⟨hgv, hbv⟩ := k2_given hst.out (by omega)
      have GV := Lib.hid hgv
      have BV := Lib.hid hbv
      clear hgv hbv
      by_cases h64 : 64 < k
      · by_cases h40 : 4096 < k
        · have HL := Lib.hid (lines_any _ 1 1 (zls 1) _ 1 1 [(zps k, 1)] _ GV.out 2 0 [] (hl1 (by omega)))
          have h64z : 64 < (k : Int) := by omega
          have h40z : 4096 < (k : Int) := by omega
          clear hl1 hl2
          go_wp2_with fail
          refine HL.out.mono ?_
          rintro e w3 ⟨v, er, xs, rfl, hrow, hfs, her, hb3⟩
          obtain ⟨g, rfl, _, q3, q4, q5⟩ := her.2 (by omega)
          have B3 := Lib.hid (BV.out.trans (hb3.mono BV.out.size))
          have HI := Lib.hid (is_any g 0 2 w3 (HLD.out.below B3.out HLD.out.pos) q3 q4 (q5.trans (by rw [codeV_ne (by decide)])))
          clear hrow hfs her hb3 HL q4 q5
          go_wp2_with fail
          refine HI.out.mono ?_
          rintro e w4 ⟨rfl, hb4⟩
          have B4 := Lib.hid (B3.out.trans (hb4.mono B3.out.size))
          clear hb4
          go_wp2_with fail
          go_ret
          exact ⟨rfl, B4.out⟩
        · have HL := Lib.hid (lines_any _ 1 1 (zls 1) _ 1 1 [(zps k, 1)] _ GV.out 2 0 [] (hl1 (by omega)))
          have h64z : 64 < (k : Int) := by omega
          have h40z : ¬ 4096 < (k : Int) := by omega
          clear hl1 hl2
          go_wp2_with fail
          refine HL.out.mono ?_
          rintro e w3 ⟨v, er, xs, rfl, hrow, hfs, her, hb3⟩
          obtain ⟨g, rfl, _, q3, q4, q5⟩ := her.2 (by omega)
          have B3 := Lib.hid (BV.out.trans (hb3.mono BV.out.size))
          have HI := Lib.hid (is_any g 0 2 w3 (HLD.out.below B3.out HLD.out.pos) q3 q4 (q5.trans (by rw [codeV_ne (by decide)])))
          clear hrow hfs her hb3 HL q4 q5
          go_wp2_with fail
          refine HI.out.mono ?_
          rintro e w4 ⟨rfl, hb4⟩
          have B4 := Lib.hid (B3.out.trans (hb4.mono B3.out.size))
          clear hb4
          go_wp2_with fail
          go_ret
          exact ⟨rfl, B4.out⟩
      · have HL := Lib.hid (lines_any _ 1 1 (zls 1) _ 1 1 [(zps k, 1)] _ GV.out 0 (-1) (lnL (zls 1) [(zps k, 1)] 1) (hl2 (by omega)))
        have h64z : ¬ 64 < (k : Int) := by omega
        have h40z : ¬ 4096 < (k : Int) := by omega
        clear hl1 hl2
        go_wp2_with fail
        refine HL.out.mono ?_
        rintro e w3 ⟨v, er, xs, rfl, hrow, hfs, her, hb3⟩
        rw [her.1 (by omega), codeV_zero]
        obtain ⟨la, lcap, rfl, _⟩ := hrow.llies
        have hx0 : xs.length = 2 := by rw [← lforms_len, hfs, lnL_len, zls_len]
        rw [hx0]
        have B3 := Lib.hid (BV.out.trans (hb3.mono BV.out.size))
        clear hrow hfs her hb3 HL hx0
        go_wp2_with fail
        go_ret
        exact ⟨rfl, B3.out⟩

set_option maxRecDepth 100000 in
set_option maxHeartbeats 1000000 in
theorem long2m_n (hup : UpSaid4) (n which : Int) (m : Nat) (w : World) (h1 : n ≤ 5000) (hm : n = m) (hk : which.tmod 3 = -2) (hg : Laid0 w) :
    Calls Tryd.prog 5 #[.int .i64 n, .int .i64 which] w fun e w' => e = .returned (.bool true) ∧ Below w.heap.size w w' := by
  have HUP := Lib.hid (fun W => hup W)
  subst hm
  have hm5 : m ≤ 5000 := by omega
  have hm0 : ¬ (m : Int) < 0 := by omega
  have hl1 := (lines_k2 m).1
  have hl2 := (lines_k2 m).2
  have hmk := fun W => run_make_parts W (m : Int) m rfl (by omega)
  have hmk1 := fun W => run_make_lins2 W 1 1 rfl (by omega)
  have HLD := Lib.hid hg
  clear hg
  have e1 := fun W => Tryd.eqCode 2 2 W
  have HBA := Lib.hid (fun (W : World) (o : Obj) => (Below.refl W.heap.size W).alloc (Nat.le_refl _) o)
  clear hup
  go_enter Tryd.func5, Tryd.ntmps5
  go_wp2_with fail
  refine (HUP.out _).mono ?_
  rintro e w1 ⟨rfl, hb1⟩
  have B1 := Lib.hid hb1
  clear hb1
  go_wp2_with fail
  have P0 := Lib.hid (PSt.start B1.out m 41)
  generalize w1.alloc (.cells (madeCells #[.int .i64 0, .int .i64 0] (m * 2)) 41) = w2 at P0 ⊢
  generalize w1.heap.size = N at P0 ⊢
  clear hmk
  go_loopw [11] (fun i wr => ∃ (k : Nat), k ≤ m ∧ i = .int .i64 k ∧ Hid (PSt w wr N m k)) (fun i _ => m - (intOf i).toNat)
  case atStart => exact ⟨0, Nat.zero_le _, rfl, P0⟩
  case round =>
    clear P0
    obtain ⟨k, hk, rfl, hst⟩ := hrel
    by_cases hlt : k < m
    · have hltz : (k : Int) < (m : Int) := by omega
      obtain ⟨g1, _, z, g3⟩ := hst.out.at' k hlt
      have hf := hst.out.fz
      have PN := Lib.hid (hst.out.step hlt)
      clear g1
      go_wp2_with fail
      refine ⟨⟨k + 1, by omega, by go_num, PN⟩, by simp [intOf]; omega⟩
    · obtain rfl : k = m := by omega
      have hltz : ¬ ((k : Nat) : Int) < (k : Int) := by omega
      obtain ⟨hgv, hbv⟩ := k2_given hst.out (by omega)
      have GV := Lib.hid hgv
      have BV := Lib.hid hbv
      clear hgv hbv
      by_cases h64 : 64 < k
      · by_cases h40 : 4096 < k
        · have HL := Lib.hid (lines_any _ 1 1 (zls 1) _ 1 1 [(zps k, 1)] _ GV.out 2 0 [] (hl1 (by omega)))
          have h64z : 64 < (k : Int) := by omega
          have h40z : 4096 < (k : Int) := by omega
          clear hl1 hl2
          go_wp2_with fail
          refine HL.out.mono ?_
          rintro e w3 ⟨v, er, xs, rfl, hrow, hfs, her, hb3⟩
          obtain ⟨g, rfl, _, q3, q4, q5⟩ := her.2 (by omega)
          have B3 := Lib.hid (BV.out.trans (hb3.mono BV.out.size))
          have HI := Lib.hid (is_any g 0 2 w3 (HLD.out.below B3.out HLD.out.pos) q3 q4 (q5.trans (by rw [codeV_ne (by decide)])))
          clear hrow hfs her hb3 HL q4 q5
          go_wp2_with fail
          refine HI.out.mono ?_
          rintro e w4 ⟨rfl, hb4⟩
          have B4 := Lib.hid (B3.out.trans (hb4.mono B3.out.size))
          clear hb4
          go_wp2_with fail
          go_ret
          exact ⟨rfl, B4.out⟩
        · have HL := Lib.hid (lines_any _ 1 1 (zls 1) _ 1 1 [(zps k, 1)] _ GV.out 2 0 [] (hl1 (by omega)))
          have h64z : 64 < (k : Int) := by omega
          have h40z : ¬ 4096 < (k : Int) := by omega
          clear hl1 hl2
          go_wp2_with fail
          refine HL.out.mono ?_
          rintro e w3 ⟨v, er, xs, rfl, hrow, hfs, her, hb3⟩
          obtain ⟨g, rfl, _, q3, q4, q5⟩ := her.2 (by omega)
          have B3 := Lib.hid (BV.out.trans (hb3.mono BV.out.size))
          have HI := Lib.hid (is_any g 0 2 w3 (HLD.out.below B3.out HLD.out.pos) q3 q4 (q5.trans (by rw [codeV_ne (by decide)])))
          clear hrow hfs her hb3 HL q4 q5
          go_wp2_with fail
          refine HI.out.mono ?_
          rintro e w4 ⟨rfl, hb4⟩
          have B4 := Lib.hid (B3.out.trans (hb4.mono B3.out.size))
          clear hb4
          go_wp2_with fail
          go_ret
          exact ⟨rfl, B4.out⟩
      · have HL := Lib.hid (lines_any _ 1 1 (zls 1) _ 1 1 [(zps k, 1)] _ GV.out 0 (-1) (lnL (zls 1) [(zps k, 1)] 1) (hl2 (by omega)))
        have h64z : ¬ 64 < (k : Int) := by omega
        have h40z : ¬ 4096 < (k : Int) := by omega
        clear hl1 hl2
        go_wp2_with fail
        refine HL.out.mono ?_
        rintro e w3 ⟨v, er, xs, rfl, hrow, hfs, her, hb3⟩
        rw [her.1 (by omega), codeV_zero]
        obtain ⟨la, lcap, rfl, _⟩ := hrow.llies
        have hx0 : xs.length = 2 := by rw [← lforms_len, hfs, lnL_len, zls_len]
        rw [hx0]
        have B3 := Lib.hid (BV.out.trans (hb3.mono BV.out.size))
        clear hrow hfs her hb3 HL hx0
        go_wp2_with fail
        go_ret
        exact ⟨rfl, B3.out⟩

set_option maxRecDepth 100000 in
set_option maxHeartbeats 1000000 in
theorem long2p_lo (hup : UpSaid4) (n which : Int) (w : World) (h0 : n < 0) (hk : which.tmod 3 = 2) (hg : Laid0 w) :
    Calls Tryd.prog 5 #[.int .i64 n, .int .i64 which] w fun e w' => e = .returned (.bool true) ∧ Below w.heap.size w w' := by
  have HUP := Lib.hid (fun W => hup W)
  skip
  have hl1 := (lines_k2 3).1
  have hl2 := (lines_k2 3).2
  have hmk := fun W => run_make_parts W 3 3 rfl (by omega)
  have hmk1 := fun W => run_make_lins2 W 1 1 rfl (by omega)
  have HLD := Lib.hid hg
  clear hg
  have e1 := fun W => Tryd.eqCode 2 2 W
  have HBA := Lib.hid (fun (W : World) (o : Obj) => (Below.refl W.heap.size W).alloc (Nat.le_refl _) o)
  clear hup
  go_enter Tryd.func5, Tryd.ntmps5
  go_wp2_with fail
  refine (HUP.out _).mono ?_
  rintro e w1 ⟨rfl, hb1⟩
  have B1 := Lib.hid hb1
  clear hb1
  go_wp2_with fail
  have P0 := Lib.hid (PSt.start B1.out 3 41)
  generalize w1.alloc (.cells (madeCells #[.int .i64 0, .int .i64 0] (3 * 2)) 41) = w2 at P0 ⊢
  generalize w1.heap.size = N at P0 ⊢
  clear hmk
  go_loopw [11] (fun i wr => ∃ (k : Nat), k ≤ 3 ∧ i = .int .i64 k ∧ Hid (PSt w wr N 3 k)) (fun i _ => 3 - (intOf i).toNat)
  case atStart => exact ⟨0, Nat.zero_le _, rfl, P0⟩
  case round =>
    clear P0
    obtain ⟨k, hk, rfl, hst⟩ := hrel
    by_cases hlt : k < 3
    · have hltz : (k : Int) < 3 := by omega
      obtain ⟨g1, _, z, g3⟩ := hst.out.at' k hlt
      have hf := hst.out.fz
      have PN := Lib.hid (hst.out.step hlt)
      clear g1
      go_wp2_with fail
      refine ⟨⟨k + 1, by omega, by go_num, PN⟩, by simp [intOf]; omega⟩
    · obtain rfl : k = 3 := by omega
      have hltz : ¬ ((3 : Nat) : Int) < 3 := by omega
      obtain ⟨hgv, hbv⟩ := k2_given hst.out (by omega)
      have GV := Lib.hid hgv
      have BV := Lib.hid hbv
      clear hgv hbv
      have HL := Lib.hid (lines_any _ 1 1 (zls 1) _ 1 1 [(zps 3, 1)] _ GV.out 0 (-1) (lnL (zls 1) [(zps 3, 1)] 1) (hl2 (by omega)))
      skip
      clear hl1 hl2
      go_wp2_with fail
      refine HL.out.mono ?_
      rintro e w3 ⟨v, er, xs, rfl, hrow, hfs, her, hb3⟩
      rw [her.1 (by omega), codeV_zero]
      obtain ⟨la, lcap, rfl, _⟩ := hrow.llies
      have hx0 : xs.length = 2 := by rw [← lforms_len, hfs, lnL_len, zls_len]
      rw [hx0]
      have B3 := Lib.hid (BV.out.trans (hb3.mono BV.out.size))
      clear hrow hfs her hb3 HL hx0
      go_wp2_with fail
      go_ret
      exact ⟨rfl, B3.out⟩

set_option maxRecDepth 100000 in
set_option maxHeartbeats 1000000 in
theorem long2m_lo (hup : UpSaid4) (n which : Int) (w : World) (h0 : n < 0) (hk : which.tmod 3 = -2) (hg : Laid0 w) :
    Calls Tryd.prog 5 #[.int .i64 n, .int .i64 which] w fun e w' => e = .returned (.bool true) ∧ Below w.heap.size w w' := by
  have HUP := Lib.hid (fun W => hup W)
  skip
  have hl1 := (lines_k2 3).1
  have hl2 := (lines_k2 3).2
  have hmk := fun W => run_make_parts W 3 3 rfl (by omega)
  have hmk1 := fun W => run_make_lins2 W 1 1 rfl (by omega)
  have HLD := Lib.hid hg
  clear hg
  have e1 := fun W => Tryd.eqCode 2 2 W
  have HBA := Lib.hid (fun (W : World) (o : Obj) => (Below.refl W.heap.size W).alloc (Nat.le_refl _) o)
  clear hup
  go_enter Tryd.func5, Tryd.ntmps5
  go_wp2_with fail
  refine (HUP.out _).mono ?_
  rintro e w1 ⟨rfl, hb1⟩
  have B1 := Lib.hid hb1
  clear hb1
  go_wp2_with fail
  have P0 := Lib.hid (PSt.start B1.out 3 41)
  generalize w1.alloc (.cells (madeCells #[.int .i64 0, .int .i64 0] (3 * 2)) 41) = w2 at P0 ⊢
  generalize w1.heap.size = N at P0 ⊢
  clear hmk
  go_loopw [11] (fun i wr => ∃ (k : Nat), k ≤ 3 ∧ i = .int .i64 k ∧ Hid (PSt w wr N 3 k)) (fun i _ => 3 - (intOf i).toNat)
  case atStart => exact ⟨0, Nat.zero_le _, rfl, P0⟩
  case round =>
    clear P0
    obtain ⟨k, hk, rfl, hst⟩ := hrel
    by_cases hlt : k < 3
    · have hltz : (k : Int) < 3 := by omega
      obtain ⟨g1, _, z, g3⟩ := hst.out.at' k hlt
      have hf := hst.out.fz
      have PN := Lib.hid (hst.out.step hlt)
      clear g1
      go_wp2_with fail
      refine ⟨⟨k + 1, by omega, by go_num, PN⟩, by simp [intOf]; omega⟩
    · obtain rfl : k = 3 := by omega
      have hltz : ¬ ((3 : Nat) : Int) < 3 := by omega
      obtain ⟨hgv, hbv⟩ := k2_given hst.out (by omega)
      have GV := Lib.hid hgv
      have BV := Lib.hid hbv
      clear hgv hbv
      have HL := Lib.hid (lines_any _ 1 1 (zls 1) _ 1 1 [(zps 3, 1)] _ GV.out 0 (-1) (lnL (zls 1) [(zps 3, 1)] 1) (hl2 (by omega)))
      skip
      clear hl1 hl2
      go_wp2_with fail
      refine HL.out.mono ?_
      rintro e w3 ⟨v, er, xs, rfl, hrow, hfs, her, hb3⟩
      rw [her.1 (by omega), codeV_zero]
      obtain ⟨la, lcap, rfl, _⟩ := hrow.llies
      have hx0 : xs.length = 2 := by rw [← lforms_len, hfs, lnL_len, zls_len]
      rw [hx0]
      have B3 := Lib.hid (BV.out.trans (hb3.mono BV.out.size))
      clear hrow hfs her hb3 HL hx0
      go_wp2_with fail
      go_ret
      exact ⟨rfl, B3.out⟩

set_option maxRecDepth 100000 in
set_option maxHeartbeats 1000000 in
theorem long2p_hi (hup : UpSaid4) (n which : Int) (w : World) (h0 : 5000 < n) (hk : which.tmod 3 = 2) (hg : Laid0 w) :
    Calls Tryd.prog 5 #[.int .i64 n, .int .i64 which] w fun e w' => e = .returned (.bool true) ∧ Below w.heap.size w w' := by
  have HUP := Lib.hid (fun W => hup W)
  have h9 : ¬ n < 0 := by omega
  have hl1 := (lines_k2 3).1
  have hl2 := (lines_k2 3).2
  have hmk := fun W => run_make_parts W 3 3 rfl (by omega)
  have hmk1 := fun W => run_make_lins2 W 1 1 rfl (by omega)
  have HLD := Lib.hid hg
  clear hg
  have e1 := fun W => Tryd.eqCode 2 2 W
  have HBA := Lib.hid (fun (W : World) (o : Obj) => (Below.refl W.heap.size W).alloc (Nat.le_refl _) o)
  clear hup
  go_enter Tryd.func5, Tryd.ntmps5
  go_wp2_with fail
  refine (HUP.out _).mono ?_
  rintro e w1 ⟨rfl, hb1⟩
  have B1 := Lib.hid hb1
  clear hb1
  go_wp2_with fail
  have P0 := Lib.hid (PSt.start B1.out 3 41)
  generalize w1.alloc (.cells (madeCells #[.int .i64 0, .int .i64 0] (3 * 2)) 41) = w2 at P0 ⊢
  generalize w1.heap.size = N at P0 ⊢
  clear hmk
  go_loopw [11] (fun i wr => ∃ (k : Nat), k ≤ 3 ∧ i = .int .i64 k ∧ Hid (PSt w wr N 3 k)) (fun i _ => 3 - (intOf i).toNat)
  case atStart => exact ⟨0, Nat.zero_le _, rfl, P0⟩
  case round =>
    clear P0
    obtain ⟨k, hk, rfl, hst⟩ := hrel
    by_cases hlt : k < 3
    · have hltz : (k : Int) < 3 := by omega
      obtain ⟨g1, _, z, g3⟩ := hst.out.at' k hlt
      have hf := hst.out.fz
      have PN := Lib.hid (hst.out.step hlt)
      clear g1
      go_wp2_with fail
      refine ⟨⟨k + 1, by omega, by go_num, PN⟩, by simp [intOf]; omega⟩
    · obtain rfl : k = 3 := by omega
      have hltz : ¬ ((3 : Nat) : Int) < 3 := by omega
      obtain ⟨hgv, hbv⟩ := k2_given hst.out (by omega)
      have GV := Lib.hid hgv
      have BV := Lib.hid hbv
      clear hgv hbv
      have HL := Lib.hid (lines_any _ 1 1 (zls 1) _ 1 1 [(zps 3, 1)] _ GV.out 0 (-1) (lnL (zls 1) [(zps 3, 1)] 1) (hl2 (by omega)))
      skip
      clear hl1 hl2
      go_wp2_with fail
      refine HL.out.mono ?_
      rintro e w3 ⟨v, er, xs, rfl, hrow, hfs, her, hb3⟩
      rw [her.1 (by omega), codeV_zero]
      obtain ⟨la, lcap, rfl, _⟩ := hrow.llies
      have hx0 : xs.length = 2 := by rw [← lforms_len, hfs, lnL_len, zls_len]
      rw [hx0]
      have B3 := Lib.hid (BV.out.trans (hb3.mono BV.out.size))
      clear hrow hfs her hb3 HL hx0
      go_wp2_with fail
      go_ret
      exact ⟨rfl, B3.out⟩

set_option maxRecDepth 100000 in
set_option maxHeartbeats 1000000 in
theorem long2m_hi (hup : UpSaid4) (n which : Int) (w : World) (h0 : 5000 < n) (hk : which.tmod 3 = -2) (hg : Laid0 w) :
    Calls Tryd.prog 5 #[.int .i64 n, .int .i64 which] w fun e w' => e = .returned (.bool true) ∧ Below w.heap.size w w' := by
  have HUP := Lib.hid (fun W => hup W)
  have h9 : ¬ n < 0 := by omega
  have hl1 := (lines_k2 3).1
  have hl2 := (lines_k2 3).2
  have hmk := fun W => run_make_parts W 3 3 rfl (by omega)
  have hmk1 := fun W => run_make_lins2 W 1 1 rfl (by omega)
  have HLD := Lib.hid hg
  clear hg
  have e1 := fun W => Tryd.eqCode 2 2 W
  have HBA := Lib.hid (fun (W : World) (o : Obj) => (Below.refl W.heap.size W).alloc (Nat.le_refl _) o)
  clear hup
  go_enter Tryd.func5, Tryd.ntmps5
  go_wp2_with fail
  refine (HUP.out _).mono ?_
  rintro e w1 ⟨rfl, hb1⟩
  have B1 := Lib.hid hb1
  clear hb1
  go_wp2_with fail
  have P0 := Lib.hid (PSt.start B1.out 3 41)
  generalize w1.alloc (.cells (madeCells #[.int .i64 0, .int .i64 0] (3 * 2)) 41) = w2 at P0 ⊢
  generalize w1.heap.size = N at P0 ⊢
  clear hmk
  go_loopw [11] (fun i wr => ∃ (k : Nat), k ≤ 3 ∧ i = .int .i64 k ∧ Hid (PSt w wr N 3 k)) (fun i _ => 3 - (intOf i).toNat)
  case atStart => exact ⟨0, Nat.zero_le _, rfl, P0⟩
  case round =>
    clear P0
    obtain ⟨k, hk, rfl, hst⟩ := hrel
    by_cases hlt : k < 3
    · have hltz : (k : Int) < 3 := by omega
      obtain ⟨g1, _, z, g3⟩ := hst.out.at' k hlt
      have hf := hst.out.fz
      have PN := Lib.hid (hst.out.step hlt)
      clear g1
      go_wp2_with fail
      refine ⟨⟨k + 1, by omega, by go_num, PN⟩, by simp [intOf]; omega⟩
    · obtain rfl : k = 3 := by omega
      have hltz : ¬ ((3 : Nat) : Int) < 3 := by omega
      obtain ⟨hgv, hbv⟩ := k2_given hst.out (by omega)
      have GV := Lib.hid hgv
      have BV := Lib.hid hbv
      clear hgv hbv
      have HL := Lib.hid (lines_any _ 1 1 (zls 1) _ 1 1 [(zps 3, 1)] _ GV.out 0 (-1) (lnL (zls 1) [(zps 3, 1)] 1) (hl2 (by omega)))
      skip
      clear hl1 hl2
      go_wp2_with fail
      refine HL.out.mono ?_
      rintro e w3 ⟨v, er, xs, rfl, hrow, hfs, her, hb3⟩
      rw [her.1 (by omega), codeV_zero]
      obtain ⟨la, lcap, rfl, _⟩ := hrow.llies
      have hx0 : xs.length = 2 := by rw [← lforms_len, hfs, lnL_len, zls_len]
      rw [hx0]
      have B3 := Lib.hid (BV.out.trans (hb3.mono BV.out.size))
      clear hrow hfs her hb3 HL hx0
      go_wp2_with fail
      go_ret
      exact ⟨rfl, B3.out⟩
end Go.Proofs.YtmjhjacbhflcpaaDoor

namespace Go.Proofs.YtmjhjacbhflcpaaDoor
open Go.ChangeShapes Go.WideShapes Go.RowKit Go.Deep

section
variable {H : Type} {enc : TypeId × Value → H} {P : Program} {w : World} {base : Nat} {spare : Nat → Bool} {held : Bool}
/-- A slice of structs of one-cell fields. -/
theorem open_slice_fields {t e : TypeId} {fs : Array Field} {fuel : Nat} {cs : List Value} {x : DataW H × List MemPlace} (ht : P.underlying t = some (.slice e)) (he : P.underlying e = some (.struct fs))
    (hone : oneCellFields P fs = true) (hC : P.cellsOf e = fs.size) (h : DataW.trod enc P w base spare held fuel t cs = some x) :
    (cs = [.slice none 0 0] ∧ x = (.nil, [])) ∨
    ∃ (a : Addr) (len cap m : Nat), cs = [.slice (some a) len cap] ∧ len ≤ cap ∧ cap ≤ maxLen ∧ len ≤ m ∧
      ∀ i, i < m → ∃ (n : Nat),
        ∀ (j : Nat) (f : Field), fs[j]? = some f → ∃ (v : Value) (y : DataW H × List MemPlace), w.cell? (a.add (i * fs.size + j)) = some v ∧ DataW.trod enc P w base spare held n f.type [v] = some y := by
  rcases open_slice ht h with h0 | ⟨a, len, cap, m, n, D, Pl, hcs, _, hl, hm, hmm, _, hi⟩
  · exact .inl h0
  · refine .inr ⟨a, len, cap, m, hcs, hl, hm, by rw [hmm]; split <;> omega, fun i him => ?_⟩
    obtain ⟨cs', hc, ht'⟩ := hi i him
    rw [hC] at hc
    obtain ⟨ys, n', _, _, _, hyl, hf⟩ := DataW.trod_struct he ht'
    obtain ⟨_, hcl, hat⟩ := World.cells?_some hc
    refine ⟨n', fun j f hj => ?_⟩
    obtain ⟨ho, hk⟩ := hone_of hone j f hj
    have hjl : j < fs.size := (Array.getElem?_eq_some_iff.1 hj).1
    have hcell := hat j hjl
    have hv : cs'[j]? = some (cs'[j]'(by omega)) := List.getElem?_eq_getElem (by omega)
    have h1 := hf j f hj
    rw [ho, hk] at h1
    have hone' : (cs'.drop j).take 1 = [cs'[j]'(by omega)] := by
      rw [List.drop_eq_getElem_cons (by omega)]
      rfl
    rw [hone'] at h1
    have hys : ys[j]? = some (ys[j]'(by omega)) := List.getElem?_eq_getElem (by omega)
    refine ⟨_, _, ?_, h1.trans hys⟩
    rw [← Go.Deep.add_add, hcell, hv]
end

/-- A list of terms that came in. -/
def Came (w : World) (a : Option Addr) (n cap : Nat) (l : List (Int × Int)) : Prop :=
  l.length = n ∧ n ≤ cap ∧ cap ≤ maxLen ∧ (a = none → n = 0 ∧ cap = 0) ∧ Lies w.heap.size w a l ∧ ∀ m ∈ l, (Lit.int .i64 m.1).wf = true ∧ (Lit.int .i64 m.2).wf = true

theorem list_of (n : Nat) (p : Nat → Int × Int → Prop) (h : ∀ i, i < n → ∃ m, p i m) : ∃ l : List (Int × Int), l.length = n ∧ ∀ i, i < n → p i (l.getD i (0, 0)) := by
  induction n with
  | zero => exact ⟨[], rfl, fun i hi => absurd hi (Nat.not_lt_zero i)⟩
  | succ n ih =>
    obtain ⟨l, hl, hp⟩ := ih (fun i hi => h i (by omega))
    obtain ⟨m, hm⟩ := h n (by omega)
    refine ⟨l ++ [m], by simp [hl], fun i hi => ?_⟩
    by_cases e : i = n
    · subst e
      rw [List.getD_eq_getElem?_getD, List.getElem?_append_right (by omega), hl]
      simpa using hm
    · have := hp i (by omega)
      rw [List.getD_eq_getElem?_getD] at this ⊢
      rwa [List.getElem?_append_left (by omega)]

section
variable {H : Type} {enc : TypeId × Value → H} {w : World} {base : Nat} {spare : Nat → Bool} {held : Bool}
theorem open_monos {fuel : Nat} {v : Value} {x : DataW H × List MemPlace} (h : DataW.trod enc Tryd.prog w base spare held fuel 47 [v] = some x) : ∃ a n cap l, v = .slice a n cap ∧ Came w a n cap l := by
  rcases open_slice_fields Tryd.underlying47 Tryd.underlying46 (by kernel_rfl) (by kernel_rfl) h with ⟨hcs, _⟩ | ⟨a, len, cap, m, hcs, hl, hm, hlm, hi⟩
  · injection hcs with hv
    exact ⟨none, 0, 0, [], hv, rfl, Nat.le_refl _, Nat.zero_le _, fun _ => ⟨rfl, rfl⟩, fun i hi => absurd hi (Nat.not_lt_zero i), fun m hm => by cases hm⟩
  · injection hcs with hv
    have hp : ∀ i, i < len → ∃ m : Int × Int, w.cell? (a.add (i * 2)) = some (.int .i64 m.1) ∧ w.cell? (a.add (i * 2 + 1)) = some (.int .i64 m.2) ∧ (Lit.int .i64 m.1).wf = true ∧ (Lit.int .i64 m.2).wf = true := by
      intro i hil
      obtain ⟨n, hf⟩ := hi i (by omega)
      obtain ⟨v0, y0, c0, t0⟩ := hf 0 _ rfl
      obtain ⟨v1, y1, c1, t1⟩ := hf 1 _ rfl
      obtain ⟨x0, e0, _, w0⟩ := DataW.trod_int Tryd.underlying3 t0
      obtain ⟨x1, e1, _, w1⟩ := DataW.trod_int Tryd.underlying3 t1
      injection e0 with e0
      injection e1 with e1
      subst e0 e1
      exact ⟨(x0, x1), c0, c1, w0, w1⟩
    obtain ⟨l, hll, hlp⟩ := list_of len _ hp
    refine ⟨some a, len, cap, l, hv, hll, hl, hm, (fun e => by cases e), fun i hi => ?_, fun m hm => ?_⟩
    · obtain ⟨c0, c1, _, _⟩ := hlp i (by omega)
      obtain ⟨b, off, spot⟩ := a
      have hs : spot = none := by
        have := World.cell?_spot c1
        by_cases h0 : spot = none
        · exact h0
        · have c00 := (hlp 0 (by omega)).1
          simpa [Addr.add] using World.cell?_spot c00
      subst hs
      refine ⟨b, off, rfl, ?_, ?_, ?_⟩
      · have := block_lt_of_cell c1
        simpa [Addr.add] using this
      · rw [Go.WideShapes.add_plain] at c0; exact c0
      · rw [Go.WideShapes.add_plain] at c1; exact c1
    · obtain ⟨i, hi, rfl⟩ := List.getElem_of_mem hm
      have := hlp i (by omega)
      rw [List.getD_eq_getElem?_getD, List.getElem?_eq_getElem hi] at this
      exact this.2.2

set_option maxRecDepth 100000 in
/-- Numbers that came in. -/
theorem open_nums {r : Reach} {b0 : Nat} {v : Value} {d : DataW H} {p : List MemPlace} (hv : Value.okWide Tryd.prog w r b0 71 v) (h : DataW.Trod enc Tryd.prog w base spare held 71 v d p) :
    ∃ (a : Option Addr) (n cap : Nat) (zs : List Int), v = .slice a n cap ∧ zs.length = n ∧ n ≤ cap ∧ cap ≤ maxLen ∧ (∀ i, i < zs.length → ∃ b off, a = some ⟨b, off, none⟩ ∧ b < w.heap.size ∧ w.cell? ⟨b, off + i, none⟩ = some (.int .i64 (zs.getD i 0))) ∧ ∀ m ∈ zs, (Lit.int .i64 m).wf = true := by
  obtain ⟨a, len, cap, rfl⟩ := okWide_slice Tryd.underlying71 hv
  obtain ⟨fuel, hf⟩ := h
  rcases open_ints Tryd.underlying71 Tryd.underlying3 (by kernel_rfl) hf with ⟨hcs, _⟩ | ⟨x, l, c, zs, hcs, _, hl, hm, hz, _, hcell, hwz⟩
  · simp [Value.cells] at hcs
    obtain ⟨rfl, rfl, rfl⟩ := hcs
    exact ⟨none, 0, 0, [], rfl, rfl, Nat.le_refl _, Nat.zero_le _, fun i hi => absurd hi (Nat.not_lt_zero i), fun m hm => by cases hm⟩
  · simp [Value.cells] at hcs
    obtain ⟨rfl, rfl, rfl⟩ := hcs
    have hz' : len ≤ zs.length := by rw [hz]; split <;> omega
    clear hz
    refine ⟨some x, len, cap, zs.take len, rfl, by simp; omega, hl, hm, fun i hi => ?_, fun m hm => hwz m (List.mem_of_mem_take hm)⟩
    have hi' : i < len := by rw [List.length_take] at hi; omega
    obtain ⟨b, off, rfl, hc⟩ := ints_at hcell (by omega)
    have h1 := hc i (by omega)
    refine ⟨b, off, rfl, by simpa using block_lt_of_cell h1, ?_⟩
    rw [h1]
    simp [List.getD_eq_getElem?_getD, hi']
set_option maxRecDepth 100000 in
/-- A form that came in. -/
theorem open_lin {r : Reach} {b0 : Nat} {v : Value} {d : DataW H} {p : List MemPlace} (hv : Value.okWide Tryd.prog w r b0 49 v) (h : DataW.Trod enc Tryd.prog w base spare held 49 v d p) :
    ∃ c a n cap l, v = .agg #[.int .i64 c, .slice a n cap] ∧ Came w a n cap l ∧ (Lit.int .i64 c).wf = true := by
  obtain ⟨v0, v1, y0, y1, n, rfl, _, _, h0, h1⟩ := Joins.open_agg2 Tryd.underlying49 (by kernel_rfl) (by kernel_rfl) hv h
  obtain ⟨x0, e0, _, w0⟩ := DataW.trod_int Tryd.underlying3 h0
  injection e0 with e0
  subst e0
  obtain ⟨a, n, cap, l, rfl, hc⟩ := open_monos h1
  exact ⟨x0, a, n, cap, l, rfl, hc, w0⟩
end
end Go.Proofs.YtmjhjacbhflcpaaDoor
