/- PropLong: its walk. (By genV.py.) -/
import Derived.Test.YtgkeipeohjkeoaaPrpU
set_option linter.unusedVariables false
set_option linter.unusedSimpArgs false
namespace Go.Proofs.Ytgkeipeohjkeoaa
open Go.RowKit

theorem run_make_ints2 (W : World) (z : Int) (n : Nat) (hz : z = n) (hn : n ≤ 140000) : (Instr.makeSlice 33 (.int .i64 z) (.int .i64 z)).run Try.prog W = .ok (.slice (some ⟨W.heap.size, 0, none⟩) n n) (W.alloc (.cells (madeCells #[.int .i64 0] n) 3)) := by
  subst hz
  obtain ⟨i0, hi, hz0, hz1, hz2⟩ := info_parts Try.infoInt
  have := run_make (P := Try.prog) W 33 3 i0 _ Try.underlying33 hi hz0 .i64 .i64 n n (by omega) (Int.le_refl _) (by rw [hz2]; omega) (by omega)
  rw [hz1] at this
  simpa [Value.cells] using this
theorem Try.infoInts : (Try.prog.info? 33).map (fun i => (i.zero, i.size, i.bytes)) = some (some (.slice none 0 0), 1, 24) := by kernel_rfl
theorem run_make_rows (W : World) (z : Int) (n : Nat) (hz : z = n) (hn : n ≤ 140000) : (Instr.makeSlice 22 (.int .i64 z) (.int .i64 z)).run Try.prog W = .ok (.slice (some ⟨W.heap.size, 0, none⟩) n n) (W.alloc (.cells (madeCells #[.slice none 0 0] n) 33)) := by
  subst hz
  obtain ⟨i0, hi, hz0, hz1, hz2⟩ := info_parts Try.infoInts
  have := run_make (P := Try.prog) W 22 33 i0 _ Try.underlying22 hi hz0 .i64 .i64 n n (by omega) (Int.le_refl _) (by rw [hz2]; omega) (by omega)
  rw [hz1] at this
  simpa [Value.cells] using this
theorem getD_rep {α : Type} (n i : Nat) (x d : α) (h : i < n) : (List.replicate n x).getD i d = x := by rw [List.getD_eq_getElem?_getD, List.getElem?_replicate, if_pos h]; rfl
theorem lits_k (n : Nat) : chkK 1 [List.replicate n 1] = if 131072 < n then 2 else 0 := by
  have hs : sumTo [List.replicate n (1 : Int)] [List.replicate n (1 : Int)].length = n := by
    show 0 + (List.replicate n (1 : Int)).length = n
    simp
  have ha : [List.replicate n (1 : Int)].all (litsB 1) = true := by
    refine List.all_eq_true.2 fun c hc => ?_
    rw [List.mem_singleton] at hc
    subst hc
    exact List.all_eq_true.2 fun x hx => by obtain rfl := List.eq_of_mem_replicate hx; decide
  unfold chkK
  rw [if_neg (by omega), if_neg (by simp), hs, if_pos ha]
theorem sum_rep (n : Nat) : ∀ k, sumTo (List.replicate n []) k = 0
  | 0 => rfl
  | k + 1 => by
    show sumTo _ k + ((List.replicate n ([] : List Int)).getD k []).length = 0
    rw [sum_rep n k]
    have : (List.replicate n ([] : List Int)).getD k [] = [] := by
      rw [List.getD_eq_getElem?_getD, List.getElem?_replicate]; split <;> rfl
    rw [this]; rfl
theorem rows_k (n : Nat) : chkK 1 (List.replicate n []) = if 16384 < n then 2 else 0 := by
  have ha : (List.replicate n ([] : List Int)).all (litsB 1) = true := List.all_eq_true.2 fun c hc => by
    obtain rfl := List.eq_of_mem_replicate hc; rfl
  unfold chkK
  rw [if_neg (by omega), List.length_replicate, sum_rep, if_pos ha]
  rfl
theorem rows_lie (w : World) (n : Nat) : CLies (w.alloc (.cells (madeCells #[.slice none 0 0] n) 33)).heap.size (w.alloc (.cells (madeCells #[.slice none 0 0] n) 33)) (some ⟨w.heap.size, 0, none⟩) (List.replicate n []) := fun i hi => by
  rw [List.length_replicate] at hi
  have hn := heap_alloc_new w (.cells (madeCells #[.slice none 0 0] n) 33)
  rw [getD_rep n i _ _ hi]
  refine ⟨w.heap.size, 0, none, 0, rfl, by simp, ?_, fun j hj => absurd hj (Nat.not_lt_zero _)⟩
  rw [cell_of_row _ _ _ _ _ _ hn]
  simp [madeCells, hi, Nat.mod_one]
theorem made_arr (w : World) (n : Nat) : Arr (w.alloc (.cells (madeCells #[.int .i64 0] n) 3)) w.heap.size n (fun i => if i < 0 then 1 else 0) ∧ ∀ o, (w.alloc (.cells (madeCells #[.int .i64 0] n) 3)).frozen? ⟨w.heap.size, o, none⟩ = false := by
  have hn := heap_alloc_new w (.cells (madeCells #[.int .i64 0] n) 3)
  refine ⟨fun i hi => ?_, fun o => frozen_of_row _ _ _ _ _ hn⟩
  rw [cell_of_row _ _ _ _ _ _ hn]
  simp [madeCells, hi, Nat.mod_one]
theorem upd_lt (k : Nat) : upd (fun i => if i < k then 1 else 0) k 1 = fun i => if i < k + 1 then 1 else 0 := by
  funext i
  unfold upd
  by_cases e : i = k
  · rw [if_pos e, if_pos (by omega)]
  · rw [if_neg e]
    show (if i < k then (1 : Int) else 0) = if i < k + 1 then 1 else 0
    by_cases h : i < k
    · rw [if_pos h, if_pos (by omega)]
    · rw [if_neg h, if_neg (by omega)]
/-- The row is filled, and made the one clause. -/
theorem lits_lie {w : World} {L n : Nat} (h : Arr w L n (fun i => if i < n then 1 else 0)) (hL : L < w.heap.size) : CLies (w.alloc (.cells #[.slice (some ⟨L, 0, none⟩) n n] 33)).heap.size (w.alloc (.cells #[.slice (some ⟨L, 0, none⟩) n n] 33)) (some ⟨w.heap.size, 0, none⟩) [List.replicate n 1] := fun i hi => by
  have hb : Below w.heap.size w (w.alloc (.cells #[.slice (some ⟨L, 0, none⟩) n n] 33)) := (Below.refl _ w).alloc (Nat.le_refl _) _
  have hn := heap_alloc_new w (.cells #[.slice (some ⟨L, 0, none⟩) n n] 33)
  match i, hi with
  | 0, _ =>
    refine ⟨w.heap.size, 0, some ⟨L, 0, none⟩, n, rfl, by simp, ?_, fun j hj => ?_⟩
    · rw [cell_of_row _ _ _ _ _ _ hn]; simp
    · have hj2 : j < n := by simpa using hj
      refine ⟨L, 0, rfl, Nat.lt_of_lt_of_le hL hb.size, ?_⟩
      rw [Nat.zero_add, hb.cell (p := ⟨L, j, none⟩) hL, h j hj2, (show (fun i => if i < n then (1 : Int) else 0) j = 1 from if_pos hj2)]
      show _ = some (Value.int .i64 ((List.replicate n (1 : Int)).getD j 0))
      rw [getD_rep n j _ _ hj2]
theorem Try.eqIfNil (t : TypeId) (v : Value) (w : World) : (binOp .eql 27 (.iface t v) .nilIface).run Try.prog w = .ok (.bool false) w := by simp [go_sem]

set_option maxRecDepth 100000 in
set_option maxHeartbeats 1000000 in
theorem longl_lo (hup : UpSaid6) (n : Int) (w : World) (h : n < 0) :
    Calls Try.prog 4 #[.int .i64 n, .bool true] w fun e w' => e = .returned (.bool true) ∧ Below w.heap.size w w' := by
  have HUP := Lib.hid (fun W => hup W)
  have HCK := Lib.hid (fun W a (h : CLies W.heap.size W a [List.replicate 3 1]) => check_any 1 a 1 1 [List.replicate 3 1] W rfl (by decide) h (fun _ j hj => by match j, hj with | 0, _ => (show (List.replicate 3 (1 : Int)).length ≤ _; rw [List.length_replicate]; omega)))
  have m1 := fun W => run_make_ints2 W 3 3 rfl (by omega)
  have q1 := fun W => Try.eqNilNil W
  have q2 := fun j k W => Try.eqCode j k W
  have q3 : ((2 : Int) == 2) = true := by decide
  clear hup
  rw [lits_k] at HCK
  go_enter Try.func4, Try.ntmps4
  go_wp2_with fail
  refine (HUP.out _).mono ?_
  rintro e w1 ⟨rfl, hb1⟩
  have B1 := Lib.hid hb1
  obtain ⟨ma, mf⟩ := made_arr w1 3
  have HMA := Lib.hid (And.intro ma mf)
  have B2 : Hid (Below w1.heap.size w1 (w1.alloc (.cells (madeCells #[.int .i64 0] 3) 3))) := (Below.refl _ w1).alloc (Nat.le_refl _) _
  have HLT : Hid (w1.heap.size < (w1.alloc (.cells (madeCells #[.int .i64 0] 3) 3)).heap.size) := by show _ < _; simp
  clear hb1 ma mf HUP
  go_wp2_with fail
  go_loopw [9] (fun i wr => ∃ k : Nat, k ≤ 3 ∧ i = .int .i64 k ∧ Hid (Arr wr w1.heap.size 3 (fun i => if i < k then 1 else 0)) ∧ Hid (∀ o, wr.frozen? ⟨w1.heap.size, o, none⟩ = false) ∧ Hid (Below w1.heap.size w1 wr) ∧ Hid (w1.heap.size < wr.heap.size)) (fun i _ => 3 - (intOf i).toNat)
  case atStart => exact ⟨0, Nat.zero_le _, rfl, HMA.out.1, HMA.out.2, B2, HLT⟩
  case round =>
    clear HMA B2 HLT m1
    obtain ⟨k, hk, rfl, hA, hF, hB, hL⟩ := hrel
    by_cases hlt : k < 3
    · have c1 := hA.out k hlt
      have f1 := hF.out k
      have HA : Hid (Arr (wr.setCell ⟨w1.heap.size, k, none⟩ (.int .i64 1)) w1.heap.size 3 (fun i => if i < k + 1 then 1 else 0)) := by
        have := hA.out.set hlt 1
        rwa [upd_lt] at this
      have HF : Hid (∀ o, (wr.setCell ⟨w1.heap.size, k, none⟩ (.int .i64 1)).frozen? ⟨w1.heap.size, o, none⟩ = false) := fun o => (World.frozen?_setCell _ _ _ _).trans (hF.out o)
      have HB := Lib.hid (hB.out.setCell (p := ⟨w1.heap.size, k, none⟩) (Nat.le_refl _) (.int .i64 1))
      have HL : Hid (w1.heap.size < (wr.setCell ⟨w1.heap.size, k, none⟩ (.int .i64 1)).heap.size) := by show _ < _; rw [World.size_setCell]; exact hL.out
      have hlt2 : (k : Int) < 3 := by omega
      clear hA hF hB hL
      go_wp2_with fail
      go_roundw
      case rel => exact ⟨k + 1, by omega, by go_num, HA, HF, HB, HL⟩
      case measure => simp [intOf]; omega
    · have hke : k = 3 := by omega
      subst hke
      have HC := Lib.hid (HCK.out _ _ (lits_lie hA.out hL.out))
      have BW : Hid (Below w.heap.size w (wr.alloc (.cells #[.slice (some ⟨w1.heap.size, 0, none⟩) 3 3] 33))) := B1.out.trans ((hB.out.mono B1.out.size).alloc (Nat.le_trans B1.out.size hB.out.size) _)
      clear hA hF hB hL HCK
      rw [if_neg (by omega), codeV_zero] at HC
      go_wp2_with fail
      refine HC.out.mono ?_
      rintro e w4 ⟨rfl, hb4⟩
      have B4 := Lib.hid (BW.out.trans (hb4.mono BW.out.size))
      clear hb4 HC
      go_wp2_with fail
      go_ret
      exact ⟨rfl, B4.out⟩
set_option maxRecDepth 100000 in
set_option maxHeartbeats 1000000 in
theorem longr_lo (hup : UpSaid6) (n : Int) (w : World) (h : n < 0) :
    Calls Try.prog 4 #[.int .i64 n, .bool false] w fun e w' => e = .returned (.bool true) ∧ Below w.heap.size w w' := by
  have HUP := Lib.hid (fun W => hup W)
  have HCK := Lib.hid (fun W => check_any 1 _ 3 3 (List.replicate 3 []) _ (by simp) (by omega) (rows_lie W 3) (fun _ j hj => by rw [getD_rep 3 j _ _ hj]; exact Nat.zero_le _))
  have m1 := fun W => run_make_rows W 3 3 rfl (by omega)
  have q1 := fun W => Try.eqNilNil W
  have q2 := fun j k W => Try.eqCode j k W
  have q3 : ((2 : Int) == 2) = true := by decide
  clear hup
  rw [rows_k] at HCK
  go_enter Try.func4, Try.ntmps4
  go_wp2_with fail
  refine (HUP.out _).mono ?_
  rintro e w1 ⟨rfl, hb1⟩
  have BW : Hid (Below w.heap.size w (w1.alloc (.cells (madeCells #[.slice none 0 0] 3) 33))) := hb1.alloc hb1.size _
  have HC := Lib.hid (HCK.out w1)
  clear hb1 HUP HCK
  rw [if_neg (by omega), codeV_zero] at HC
  go_wp2_with fail
  refine HC.out.mono ?_
  rintro e w4 ⟨rfl, hb4⟩
  have B4 := Lib.hid (BW.out.trans (hb4.mono BW.out.size))
  clear hb4 HC
  go_wp2_with fail
  go_ret
  exact ⟨rfl, B4.out⟩
set_option maxRecDepth 100000 in
set_option maxHeartbeats 1000000 in
theorem longl_hi (hup : UpSaid6) (n : Int) (w : World) (h : 140000 < n) :
    Calls Try.prog 4 #[.int .i64 n, .bool true] w fun e w' => e = .returned (.bool true) ∧ Below w.heap.size w w' := by
  have HUP := Lib.hid (fun W => hup W)
  have HCK := Lib.hid (fun W a (h : CLies W.heap.size W a [List.replicate 3 1]) => check_any 1 a 1 1 [List.replicate 3 1] W rfl (by decide) h (fun _ j hj => by match j, hj with | 0, _ => (show (List.replicate 3 (1 : Int)).length ≤ _; rw [List.length_replicate]; omega)))
  have m1 := fun W => run_make_ints2 W 3 3 rfl (by omega)
  have q1 := fun W => Try.eqNilNil W
  have q2 := fun j k W => Try.eqCode j k W
  have q3 : ((2 : Int) == 2) = true := by decide
  clear hup
  rw [lits_k] at HCK
  go_enter Try.func4, Try.ntmps4
  go_wp2_with fail
  refine (HUP.out _).mono ?_
  rintro e w1 ⟨rfl, hb1⟩
  have B1 := Lib.hid hb1
  obtain ⟨ma, mf⟩ := made_arr w1 3
  have HMA := Lib.hid (And.intro ma mf)
  have B2 : Hid (Below w1.heap.size w1 (w1.alloc (.cells (madeCells #[.int .i64 0] 3) 3))) := (Below.refl _ w1).alloc (Nat.le_refl _) _
  have HLT : Hid (w1.heap.size < (w1.alloc (.cells (madeCells #[.int .i64 0] 3) 3)).heap.size) := by show _ < _; simp
  clear hb1 ma mf HUP
  go_wp2_with fail
  go_loopw [9] (fun i wr => ∃ k : Nat, k ≤ 3 ∧ i = .int .i64 k ∧ Hid (Arr wr w1.heap.size 3 (fun i => if i < k then 1 else 0)) ∧ Hid (∀ o, wr.frozen? ⟨w1.heap.size, o, none⟩ = false) ∧ Hid (Below w1.heap.size w1 wr) ∧ Hid (w1.heap.size < wr.heap.size)) (fun i _ => 3 - (intOf i).toNat)
  case atStart => exact ⟨0, Nat.zero_le _, rfl, HMA.out.1, HMA.out.2, B2, HLT⟩
  case round =>
    clear HMA B2 HLT m1
    obtain ⟨k, hk, rfl, hA, hF, hB, hL⟩ := hrel
    by_cases hlt : k < 3
    · have c1 := hA.out k hlt
      have f1 := hF.out k
      have HA : Hid (Arr (wr.setCell ⟨w1.heap.size, k, none⟩ (.int .i64 1)) w1.heap.size 3 (fun i => if i < k + 1 then 1 else 0)) := by
        have := hA.out.set hlt 1
        rwa [upd_lt] at this
      have HF : Hid (∀ o, (wr.setCell ⟨w1.heap.size, k, none⟩ (.int .i64 1)).frozen? ⟨w1.heap.size, o, none⟩ = false) := fun o => (World.frozen?_setCell _ _ _ _).trans (hF.out o)
      have HB := Lib.hid (hB.out.setCell (p := ⟨w1.heap.size, k, none⟩) (Nat.le_refl _) (.int .i64 1))
      have HL : Hid (w1.heap.size < (wr.setCell ⟨w1.heap.size, k, none⟩ (.int .i64 1)).heap.size) := by show _ < _; rw [World.size_setCell]; exact hL.out
      have hlt2 : (k : Int) < 3 := by omega
      clear hA hF hB hL
      go_wp2_with fail
      go_roundw
      case rel => exact ⟨k + 1, by omega, by go_num, HA, HF, HB, HL⟩
      case measure => simp [intOf]; omega
    · have hke : k = 3 := by omega
      subst hke
      have HC := Lib.hid (HCK.out _ _ (lits_lie hA.out hL.out))
      have BW : Hid (Below w.heap.size w (wr.alloc (.cells #[.slice (some ⟨w1.heap.size, 0, none⟩) 3 3] 33))) := B1.out.trans ((hB.out.mono B1.out.size).alloc (Nat.le_trans B1.out.size hB.out.size) _)
      clear hA hF hB hL HCK
      rw [if_neg (by omega), codeV_zero] at HC
      go_wp2_with fail
      refine HC.out.mono ?_
      rintro e w4 ⟨rfl, hb4⟩
      have B4 := Lib.hid (BW.out.trans (hb4.mono BW.out.size))
      clear hb4 HC
      go_wp2_with fail
      go_ret
      exact ⟨rfl, B4.out⟩
set_option maxRecDepth 100000 in
set_option maxHeartbeats 1000000 in
theorem longr_hi (hup : UpSaid6) (n : Int) (w : World) (h : 140000 < n) :
    Calls Try.prog 4 #[.int .i64 n, .bool false] w fun e w' => e = .returned (.bool true) ∧ Below w.heap.size w w' := by
  have HUP := Lib.hid (fun W => hup W)
  have HCK := Lib.hid (fun W => check_any 1 _ 3 3 (List.replicate 3 []) _ (by simp) (by omega) (rows_lie W 3) (fun _ j hj => by rw [getD_rep 3 j _ _ hj]; exact Nat.zero_le _))
  have m1 := fun W => run_make_rows W 3 3 rfl (by omega)
  have q1 := fun W => Try.eqNilNil W
  have q2 := fun j k W => Try.eqCode j k W
  have q3 : ((2 : Int) == 2) = true := by decide
  clear hup
  rw [rows_k] at HCK
  go_enter Try.func4, Try.ntmps4
  go_wp2_with fail
  refine (HUP.out _).mono ?_
  rintro e w1 ⟨rfl, hb1⟩
  have BW : Hid (Below w.heap.size w (w1.alloc (.cells (madeCells #[.slice none 0 0] 3) 33))) := hb1.alloc hb1.size _
  have HC := Lib.hid (HCK.out w1)
  clear hb1 HUP HCK
  rw [if_neg (by omega), codeV_zero] at HC
  go_wp2_with fail
  refine HC.out.mono ?_
  rintro e w4 ⟨rfl, hb4⟩
  have B4 := Lib.hid (BW.out.trans (hb4.mono BW.out.size))
  clear hb4 HC
  go_wp2_with fail
  go_ret
  exact ⟨rfl, B4.out⟩
set_option maxRecDepth 100000 in
set_option maxHeartbeats 1000000 in
theorem longl_n (hup : UpSaid6) (N : Nat) (w : World) (h : N ≤ 140000) :
    Calls Try.prog 4 #[.int .i64 N, .bool true] w fun e w' => e = .returned (.bool true) ∧ Below w.heap.size w w' := by
  have HUP := Lib.hid (fun W => hup W)
  have HCK := Lib.hid (fun W a (h : CLies W.heap.size W a [List.replicate N 1]) => check_any 1 a 1 1 [List.replicate N 1] W rfl (by decide) h (fun _ j hj => by match j, hj with | 0, _ => (show (List.replicate N (1 : Int)).length ≤ _; rw [List.length_replicate]; omega)))
  have m1 := fun W => run_make_ints2 W (N : Int) N rfl (by omega)
  have q1 := fun W => Try.eqNilNil W
  have q2 := fun j k W => Try.eqCode j k W
  have q3 : ((2 : Int) == 2) = true := by decide
  clear hup
  rw [lits_k] at HCK
  go_enter Try.func4, Try.ntmps4
  go_wp2_with fail
  refine (HUP.out _).mono ?_
  rintro e w1 ⟨rfl, hb1⟩
  have B1 := Lib.hid hb1
  obtain ⟨ma, mf⟩ := made_arr w1 N
  have HMA := Lib.hid (And.intro ma mf)
  have B2 : Hid (Below w1.heap.size w1 (w1.alloc (.cells (madeCells #[.int .i64 0] N) 3))) := (Below.refl _ w1).alloc (Nat.le_refl _) _
  have HLT : Hid (w1.heap.size < (w1.alloc (.cells (madeCells #[.int .i64 0] N) 3)).heap.size) := by show _ < _; simp
  clear hb1 ma mf HUP
  go_wp2_with fail
  go_loopw [9] (fun i wr => ∃ k : Nat, k ≤ N ∧ i = .int .i64 k ∧ Hid (Arr wr w1.heap.size N (fun i => if i < k then 1 else 0)) ∧ Hid (∀ o, wr.frozen? ⟨w1.heap.size, o, none⟩ = false) ∧ Hid (Below w1.heap.size w1 wr) ∧ Hid (w1.heap.size < wr.heap.size)) (fun i _ => N - (intOf i).toNat)
  case atStart => exact ⟨0, Nat.zero_le _, rfl, HMA.out.1, HMA.out.2, B2, HLT⟩
  case round =>
    clear HMA B2 HLT m1
    obtain ⟨k, hk, rfl, hA, hF, hB, hL⟩ := hrel
    by_cases hlt : k < N
    · have c1 := hA.out k hlt
      have f1 := hF.out k
      have HA : Hid (Arr (wr.setCell ⟨w1.heap.size, k, none⟩ (.int .i64 1)) w1.heap.size N (fun i => if i < k + 1 then 1 else 0)) := by
        have := hA.out.set hlt 1
        rwa [upd_lt] at this
      have HF : Hid (∀ o, (wr.setCell ⟨w1.heap.size, k, none⟩ (.int .i64 1)).frozen? ⟨w1.heap.size, o, none⟩ = false) := fun o => (World.frozen?_setCell _ _ _ _).trans (hF.out o)
      have HB := Lib.hid (hB.out.setCell (p := ⟨w1.heap.size, k, none⟩) (Nat.le_refl _) (.int .i64 1))
      have HL : Hid (w1.heap.size < (wr.setCell ⟨w1.heap.size, k, none⟩ (.int .i64 1)).heap.size) := by show _ < _; rw [World.size_setCell]; exact hL.out
      have hlt2 : (k : Int) < (N : Int) := by omega
      clear hA hF hB hL
      go_wp2_with fail
      go_roundw
      case rel => exact ⟨k + 1, by omega, by go_num, HA, HF, HB, HL⟩
      case measure => simp [intOf]; omega
    · have hke : k = N := by omega
      have hke2 := hke.symm; subst hke2
      have HC := Lib.hid (HCK.out _ _ (lits_lie hA.out hL.out))
      have BW : Hid (Below w.heap.size w (wr.alloc (.cells #[.slice (some ⟨w1.heap.size, 0, none⟩) N N] 33))) := B1.out.trans ((hB.out.mono B1.out.size).alloc (Nat.le_trans B1.out.size hB.out.size) _)
      clear hA hF hB hL HCK
      by_cases hbig : 131072 < N
      · rw [if_pos hbig, codeV_ne (by decide)] at HC
        have hbig2 : (131072 : Int) < (N : Int) := by omega
        go_wp2_with fail
        refine HC.out.mono ?_
        rintro e w4 ⟨rfl, hb4⟩
        have B4 := Lib.hid (BW.out.trans (hb4.mono BW.out.size))
        clear hb4 HC
        go_wp2_with fail
        go_ret
        exact ⟨rfl, B4.out⟩
      · rw [if_neg hbig, codeV_zero] at HC
        have hbig2 : ¬ (131072 : Int) < (N : Int) := by omega
        go_wp2_with fail
        refine HC.out.mono ?_
        rintro e w4 ⟨rfl, hb4⟩
        have B4 := Lib.hid (BW.out.trans (hb4.mono BW.out.size))
        clear hb4 HC
        go_wp2_with fail
        go_ret
        exact ⟨rfl, B4.out⟩
set_option maxRecDepth 100000 in
set_option maxHeartbeats 1000000 in
theorem longr_n (hup : UpSaid6) (N : Nat) (w : World) (h : N ≤ 140000) :
    Calls Try.prog 4 #[.int .i64 N, .bool false] w fun e w' => e = .returned (.bool true) ∧ Below w.heap.size w w' := by
  have HUP := Lib.hid (fun W => hup W)
  have HCK := Lib.hid (fun W => check_any 1 _ N N (List.replicate N []) _ (by simp) (by omega) (rows_lie W N) (fun _ j hj => by rw [getD_rep N j _ _ hj]; exact Nat.zero_le _))
  have m1 := fun W => run_make_rows W (N : Int) N rfl (by omega)
  have q1 := fun W => Try.eqNilNil W
  have q2 := fun j k W => Try.eqCode j k W
  have q3 : ((2 : Int) == 2) = true := by decide
  clear hup
  rw [rows_k] at HCK
  go_enter Try.func4, Try.ntmps4
  go_wp2_with fail
  refine (HUP.out _).mono ?_
  rintro e w1 ⟨rfl, hb1⟩
  have BW : Hid (Below w.heap.size w (w1.alloc (.cells (madeCells #[.slice none 0 0] N) 33))) := hb1.alloc hb1.size _
  have HC := Lib.hid (HCK.out w1)
  clear hb1 HUP HCK
  by_cases hbig : 16384 < N
  · rw [if_pos hbig, codeV_ne (by decide)] at HC
    have hbig2 : (16384 : Int) < (N : Int) := by omega
    go_wp2_with fail
    refine HC.out.mono ?_
    rintro e w4 ⟨rfl, hb4⟩
    have B4 := Lib.hid (BW.out.trans (hb4.mono BW.out.size))
    clear hb4 HC
    go_wp2_with fail
    go_ret
    exact ⟨rfl, B4.out⟩
  · rw [if_neg hbig, codeV_zero] at HC
    have hbig2 : ¬ (16384 : Int) < (N : Int) := by omega
    go_wp2_with fail
    refine HC.out.mono ?_
    rintro e w4 ⟨rfl, hb4⟩
    have B4 := Lib.hid (BW.out.trans (hb4.mono BW.out.size))
    clear hb4 HC
    go_wp2_with fail
    go_ret
    exact ⟨rfl, B4.out⟩
theorem propLong_any (hup : UpSaid6) (n : Int) (b : Bool) (w : World) :
    Calls Try.prog 4 #[.int .i64 n, .bool b] w fun e w' => e = .returned (.bool true) ∧ Below w.heap.size w w' := by
  by_cases h0 : n < 0
  · cases b
    · exact longr_lo hup n w h0
    · exact longl_lo hup n w h0
  · by_cases h1 : 140000 < n
    · cases b
      · exact longr_hi hup n w h1
      · exact longl_hi hup n w h1
    · obtain ⟨N, rfl⟩ := Int.eq_ofNat_of_zero_le (show 0 ≤ n by omega)
      cases b
      · exact longr_n hup N w (by omega)
      · exact longl_n hup N w (by omega)
end Go.Proofs.Ytgkeipeohjkeoaa
