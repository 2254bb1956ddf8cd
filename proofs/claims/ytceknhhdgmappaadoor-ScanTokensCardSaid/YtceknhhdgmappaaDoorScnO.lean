/- An operation: the document's. (By genScnO.py.) -/
import Derived.Test.YtceknhhdgmappaaDoorScnN
import Derived.Lib.QuietBelow
set_option linter.unusedVariables false
set_option linter.unusedSimpArgs false
namespace Go.Proofs.YtceknhhdgmappaaDoor
set_option maxRecDepth 100000
open Go.RowKit

theorem below_drewN {B : Nat} {w W : World} (h : Below B w W) (n : Nat) : Below B w (W.drewN n) := by
  induction n with
  | zero => exact h
  | succ n ih => exact ih.drew
def onesS : ByteArray := ⟨#[40, 41, 123, 125, 91, 93, 44, 59, 46, 43, 45, 42, 60, 33, 38]⟩
theorem one_at (j : Nat) (h : j < 15) (W : World) : (Instr.index 9 (.string ⟨#[40, 41, 123, 125, 91, 93, 44, 59, 46, 43, 45, 42, 60, 33, 38]⟩) (.int .i64 j)).run Tryd.prog W = .ok (.int .u8 ((onesL.getD j 0).toNat : Int)) W := by
  rw [run_index_string W _ _ .i64 _ Tryd.underlying9, dif_pos ⟨by omega, by show (j : Int) < 15; omega⟩]
  have e : (⟨#[40, 41, 123, 125, 91, 93, 44, 59, 46, 43, 45, 42, 60, 33, 38]⟩ : ByteArray)[(j : Int).toNat]'(by show (j : Int).toNat < 15; omega) = onesL.getD j 0 := by
    rw [get_l]
    simp only [Int.toNat_natCast]
    rw [List.getD_eq_getElem?_getD, List.getElem?_eq_getElem (show j < onesL.length from h)]
    rfl
  rw [e]
def oneA (j : Nat) : ByteArray := onesS.extract j (j + 1)
theorem one_slice (j : Nat) (h : j < 15) (W : World) : (Instr.slice 9 (.string ⟨#[40, 41, 123, 125, 91, 93, 44, 59, 46, 43, 45, 42, 60, 33, 38]⟩) (some (.int .i64 j)) (some (.int .i64 ((j : Int) + 1))) none).run Tryd.prog W = .ok (.string (oneA j)) W :=
  slice_mid (s := ⟨#[40, 41, 123, 125, 91, 93, 44, 59, 46, 43, 45, 42, 60, 33, 38]⟩) (a := j) (b := j + 1) W rfl (by omega) (by omega) (by show j + 1 ≤ 15; omega)
theorem oneA_data (j : Nat) (h : j < 15) : (oneA j).data.toList = [onesL.getD j 0] := by
  unfold oneA
  rw [Lib.extract_data, Nat.add_sub_cancel_left]
  have e : onesS.data.toList = onesL := rfl
  rw [e, cons_of (show j < onesL.length from h), List.take_succ_cons, List.take_zero, List.getD_eq_getElem?_getD, List.getElem?_eq_getElem (show j < onesL.length from h)]
  rfl
def twoA (j : Nat) : ByteArray := ⟨(twosL.getD j []).toArray⟩
theorem twoA_data (j : Nat) : (twoA j).data.toList = twosL.getD j [] := by simp [twoA]
theorem two_mem {j : Nat} (h : j < 6) : twosL.getD j [] ∈ twosL := by
  rw [List.getD_eq_getElem?_getD, List.getElem?_eq_getElem (show j < twosL.length from h)]; exact List.getElem_mem _
theorem two_cmp (s : ByteArray) (a j : Nat) : ((s.extract a (a + 2)).toList == (twoA j).toList) = decide ((s.data.toList.drop a).take 2 = twosL.getD j []) := by
  rw [Bool.eq_iff_iff]
  simp only [Lib.toList_data, Lib.extract_data, twoA_data, beq_iff_eq, decide_eq_true_eq, Nat.add_sub_cancel_left]
def OpEnd (l : List UInt8) (w : World) (e : Ending) (w' : World) : Prop :=
  ∃ o : ByteArray, e = .returned (.string o) ∧ o.data.toList = l.take (opN l) ∧ Below w.heap.size w w'
set_option maxHeartbeats 8000000 in
theorem rop_any (s : ByteArray) (at' : Nat) (w : World) (hs : s.size ≤ 1000000) (ha : at' < s.size) : Calls Tryd.prog 21 #[.string s, .int .i64 at'] w (OpEnd (s.data.toList.drop at') w) := by
  have hsz := size_l s
  have hal : at' < s.data.toList.length := by omega
  obtain ⟨c, hc⟩ : ∃ c, s.data.toList[at'] = c := ⟨_, rfl⟩
  have hcons : s.data.toList.drop at' = c :: s.data.toList.drop (at' + 1) := by rw [cons_of hal, hc]
  have hixc : ∀ W, (Instr.index 9 (.string s) (.int .i64 (at' : Int))).run Tryd.prog W = .ok (.int .u8 (c.toNat : Int)) W := fun W => by
    rw [run_index_string W _ s .i64 _ Tryd.underlying9, dif_pos ⟨by omega, by omega⟩]
    have e : s[(at' : Int).toNat]'(by simpa using ha) = c := by
      rw [get_l]; simpa using hc
    rw [e]
  -- what the two lists say
  have HTWO : Hid (∀ j, j < 6 → (s.data.toList.drop at').take 2 = twosL.getD j [] → (twoA j).data.toList = (s.data.toList.drop at').take (opN (s.data.toList.drop at'))) := fun j hj e => by
    rw [opN_two (by rw [e]; exact two_mem hj), twoA_data, e]
  have hnt : (¬ at' + 1 < s.size) → (s.data.toList.drop at').take 2 ∉ twosL := fun h hm => by
    have := twos_two _ hm
    rw [List.length_take, List.length_drop, hsz] at this
    omega
  have hnt2 : (∀ j, j < 6 → (s.data.toList.drop at').take 2 ≠ twosL.getD j []) → (s.data.toList.drop at').take 2 ∉ twosL := fun h hm => by
    obtain ⟨j, hj, e⟩ := List.getElem_of_mem hm
    exact h j hj (by rw [List.getD_eq_getElem?_getD, List.getElem?_eq_getElem hj]; exact e.symm)
  have hone : (s.data.toList.drop at').take 2 ∉ twosL → (∀ j, j < 15 → onesL.getD j 0 = c → (oneA j).data.toList = (s.data.toList.drop at').take (opN (s.data.toList.drop at'))) ∧ ((∀ j, j < 15 → onesL.getD j 0 ≠ c) → (⟨#[]⟩ : ByteArray).data.toList = (s.data.toList.drop at').take (opN (s.data.toList.drop at'))) := fun h => by
    rw [hcons] at h ⊢
    refine ⟨fun j hj e => ?_, fun hno => ?_⟩
    · rw [opN_one h (by rw [← e, List.getD_eq_getElem?_getD, List.getElem?_eq_getElem (show j < onesL.length from hj)]; exact List.getElem_mem _), oneA_data j hj, e]; rfl
    · rw [opN_none h (fun hm => by
        obtain ⟨j, hj, e⟩ := List.getElem_of_mem hm
        exact hno j hj (by rw [List.getD_eq_getElem?_getD, List.getElem?_eq_getElem hj]; exact e))]; rfl
  have HNT := Lib.hid hnt
  have HNT2 := Lib.hid hnt2
  have HON := Lib.hid hone
  have HIX := Lib.hid hixc
  clear hsz hal hc hcons hnt hnt2 hone hixc
  by_cases h2 : at' + 1 < s.size
  · have h2i : (at' : Int) + 1 < (s.size : Int) := by omega
    have hsl := fun W => slice_mid (s := s) (a := at') (b := at' + 2) (x := (at' : Int)) (y := (at' : Int) + 2) W rfl (by omega) (by omega) (by omega)
    have HC : Hid (∀ j, j < 6 → (w.alloc (.cells #[.string ⟨#[58, 61]⟩, .string ⟨#[61, 61]⟩, .string ⟨#[33, 61]⟩, .string ⟨#[60, 61]⟩, .string ⟨#[38, 38]⟩, .string ⟨#[124, 124]⟩] 9)).cell? ⟨w.heap.size, j, none⟩ = some (.string (twoA j))) := fun j h => by
      rw [cell_of_row _ _ _ _ _ _ (heap_alloc_new w _)]
      have e : (#[.string ⟨#[58, 61]⟩, .string ⟨#[61, 61]⟩, .string ⟨#[33, 61]⟩, .string ⟨#[60, 61]⟩, .string ⟨#[38, 38]⟩, .string ⟨#[124, 124]⟩] : Array Value) = (twosL.map fun l => Value.string ⟨l.toArray⟩).toArray := by rfl
      rw [e, List.getElem?_toArray, List.getElem?_map, List.getElem?_eq_getElem (show j < twosL.length from h)]
      simp only [Option.map_some, twoA, List.getD_eq_getElem?_getD, List.getElem?_eq_getElem (show j < twosL.length from h), Option.getD_some]
    have HB : Hid (Below w.heap.size w (w.alloc (.cells #[.string ⟨#[58, 61]⟩, .string ⟨#[61, 61]⟩, .string ⟨#[33, 61]⟩, .string ⟨#[60, 61]⟩, .string ⟨#[38, 38]⟩, .string ⟨#[124, 124]⟩] 9))) := (Below.refl _ w).alloc (Nat.le_refl _) _
    have HCM := Lib.hid (fun j => two_cmp s at' j)
    generalize s.extract at' (at' + 2) = tt at *
    go_enter Tryd.func21, Tryd.ntmps21
    go_wp2
    generalize w.alloc (.cells #[.string ⟨#[58, 61]⟩, .string ⟨#[61, 61]⟩, .string ⟨#[33, 61]⟩, .string ⟨#[60, 61]⟩, .string ⟨#[38, 38]⟩, .string ⟨#[124, 124]⟩] 9) = W1 at *
    go_loopw [6] (fun i wr => ∃ j : Nat, j ≤ 6 ∧ i = .int .i64 j ∧ Hid (∀ q, q < j → (s.data.toList.drop at').take 2 ≠ twosL.getD q []) ∧ Hid (∃ q, wr = W1.drewN q)) (fun i _ => 6 - (intOf i).toNat)
    case atStart => exact ⟨0, Nat.zero_le _, rfl, fun q h => absurd h (Nat.not_lt_zero _), 0, rfl⟩
    case round =>
      obtain ⟨j, hj, rfl, hno, hw⟩ := hrel
      obtain ⟨q, hw⟩ := hw.out
      subst hw
      by_cases hlt : j < 6
      · have hlti : (j : Int) < 6 := by omega
        have hx := HC.out j hlt
        have he := HCM.out j
        by_cases hq : (s.data.toList.drop at').take 2 = twosL.getD j []
        · have HO := Lib.hid (HTWO.out j hlt hq)
          rw [decide_eq_true hq] at he
          clear hq hno
          generalize twoA j = o at *
          go_wp2_with fail
          go_quiet (fail)
          go_wp2
          go_ret
          exact ⟨_, rfl, HO.out, below_drewN HB.out (q + nq)⟩
        · have hno2 : Hid (∀ q, q < j + 1 → (s.data.toList.drop at').take 2 ≠ twosL.getD q []) := fun q h => by
            by_cases e : q = j
            · rw [e]; exact hq
            · exact hno.out q (by omega)
          rw [decide_eq_false hq] at he
          clear hq hno
          generalize twoA j = o at *
          go_wp2_with fail
          go_quiet (fail)
          go_wp2
          go_roundw
          case rel => exact ⟨j + 1, by omega, by go_num, hno2, ⟨q + nq, rfl⟩⟩
          case measure => simp [intOf]; omega
      · obtain rfl : j = 6 := by omega
        have BZ := Lib.hid (below_drewN HB.out q)
        obtain ⟨h1, h2⟩ := HON.out (HNT2.out hno.out)
        have HONE := Lib.hid h1
        have HNONE := Lib.hid h2
        have hixc := HIX.out
        clear h1 h2 hno HC HCM HTWO HNT HNT2 HON HIX hsl
        go_wp2_with fail
        go_loopw [8] (fun i wr => ∃ j : Nat, j ≤ 15 ∧ i = .int .i64 j ∧ Hid (∀ q, q < j → onesL.getD q 0 ≠ c) ∧ Hid (Below w.heap.size w wr)) (fun i _ => 15 - (intOf i).toNat)
        case atStart => exact ⟨0, Nat.zero_le _, rfl, fun q h => absurd h (Nat.not_lt_zero _), BZ.out⟩
        case round =>
          obtain ⟨j, hj, rfl, hno, hbr⟩ := hrel
          by_cases hlt : j < 15
          · have hlti : (j : Int) < 15 := by omega
            have hx := fun W => one_at j hlt W
            by_cases hq : onesL.getD j 0 = c
            · have he : ((c.toNat : Int) == ((onesL.getD j 0).toNat : Int)) = true := by rw [hq]; simp
              have HO := Lib.hid (HONE.out j hlt hq)
              have hsl2 := fun W => one_slice j hlt W
              clear hq hno
              generalize onesL.getD j 0 = d at hx he
              go_wp2_with fail
              go_quiet (fail)
              go_wp2
              go_ret
              exact ⟨_, rfl, HO.out, below_drewN hbr.out nq⟩
            · have he : ((c.toNat : Int) == ((onesL.getD j 0).toNat : Int)) = false := by
                rw [Bool.eq_false_iff]; simp only [ne_eq, beq_iff_eq]
                intro e; exact hq (UInt8.toNat_inj.1 (by omega))
              have hno2 : Hid (∀ q, q < j + 1 → onesL.getD q 0 ≠ c) := fun q h => by
                by_cases e : q = j
                · rw [e]; exact hq
                · exact hno.out q (by omega)
              have HBD := Lib.hid (fun nq => below_drewN hbr.out nq)
              clear hq hno hbr
              generalize onesL.getD j 0 = d at hx he
              go_wp2_with fail
              go_quiet (fail)
              go_wp2
              go_roundw
              case rel => exact ⟨j + 1, by omega, by go_num, hno2, HBD.out _⟩
              case measure => simp [intOf]; omega
          · obtain rfl : j = 15 := by omega
            have HO := Lib.hid (HNONE.out (fun q h => hno.out q h))
            go_wp2
            go_ret
            exact ⟨_, rfl, HO.out, hbr.out⟩
  · have h2i : ¬ (at' : Int) + 1 < (s.size : Int) := by omega
    have BZ := Lib.hid (Below.refl w.heap.size w)
    obtain ⟨h1, h2⟩ := HON.out (HNT.out h2)
    have HONE := Lib.hid h1
    have HNONE := Lib.hid h2
    have hixc := HIX.out
    clear h1 h2 HTWO HNT HNT2 HON HIX
    go_enter Tryd.func21, Tryd.ntmps21
    go_wp2_with fail
    go_loopw [8] (fun i wr => ∃ j : Nat, j ≤ 15 ∧ i = .int .i64 j ∧ Hid (∀ q, q < j → onesL.getD q 0 ≠ c) ∧ Hid (Below w.heap.size w wr)) (fun i _ => 15 - (intOf i).toNat)
    case atStart => exact ⟨0, Nat.zero_le _, rfl, fun q h => absurd h (Nat.not_lt_zero _), BZ.out⟩
    case round =>
      obtain ⟨j, hj, rfl, hno, hbr⟩ := hrel
      by_cases hlt : j < 15
      · have hlti : (j : Int) < 15 := by omega
        have hx := fun W => one_at j hlt W
        by_cases hq : onesL.getD j 0 = c
        · have he : ((c.toNat : Int) == ((onesL.getD j 0).toNat : Int)) = true := by rw [hq]; simp
          have HO := Lib.hid (HONE.out j hlt hq)
          have hsl2 := fun W => one_slice j hlt W
          clear hq hno
          generalize onesL.getD j 0 = d at hx he
          go_wp2_with fail
          go_quiet (fail)
          go_wp2
          go_ret
          exact ⟨_, rfl, HO.out, below_drewN hbr.out nq⟩
        · have he : ((c.toNat : Int) == ((onesL.getD j 0).toNat : Int)) = false := by
            rw [Bool.eq_false_iff]; simp only [ne_eq, beq_iff_eq]
            intro e; exact hq (UInt8.toNat_inj.1 (by omega))
          have hno2 : Hid (∀ q, q < j + 1 → onesL.getD q 0 ≠ c) := fun q h => by
            by_cases e : q = j
            · rw [e]; exact hq
            · exact hno.out q (by omega)
          have HBD := Lib.hid (fun nq => below_drewN hbr.out nq)
          clear hq hno hbr
          generalize onesL.getD j 0 = d at hx he
          go_wp2_with fail
          go_quiet (fail)
          go_wp2
          go_roundw
          case rel => exact ⟨j + 1, by omega, by go_num, hno2, HBD.out _⟩
          case measure => simp [intOf]; omega
      · obtain rfl : j = 15 := by omega
        have HO := Lib.hid (HNONE.out (fun q h => hno.out q h))
        go_wp2
        go_ret
        exact ⟨_, rfl, HO.out, hbr.out⟩
end Go.Proofs.YtceknhhdgmappaaDoor
