/- ScanLong: its walk. (By genScnS.py.) -/
import Derived.Test.YtceknhhdgmappaaDoorScnQ
set_option linter.unusedVariables false
set_option linter.unusedSimpArgs false
namespace Go.Proofs.YtceknhhdgmappaaDoor
set_option maxRecDepth 100000
open Go.RowKit

theorem run_make_bytes (W : World) (z : Int) (n : Nat) (hz : z = n) (hn : n ≤ 140000) : (Instr.makeSlice 33 (.int .i64 z) (.int .i64 z)).run Tryd.prog W = .ok (.slice (some ⟨W.heap.size, 0, none⟩) n n) (W.alloc (.cells (madeCells #[.int .u8 0] n) 5)) := by
  subst hz
  obtain ⟨i0, hi, hz0, hz1, hz2⟩ := Pak.info_parts Pak.Tryd.infoByte
  have := run_make (P := Tryd.prog) W 33 5 i0 _ Tryd.underlying33 hi hz0 .i64 .i64 n n (by omega) (Int.le_refl _) (by rw [hz2]; omega) (by omega)
  rw [hz1] at this
  simpa [Value.cells] using this
/-- A row of n bytes, the first k of them blanks. -/
def Filled (g n k : Nat) (w : World) : Prop := ∀ j, j < n → w.cell? ⟨g, j, none⟩ = some (.int .u8 (if j < k then 32 else 0))
theorem made_bytes (w : World) (n : Nat) : Filled w.heap.size n 0 (w.alloc (.cells (madeCells #[.int .u8 0] n) 5)) ∧ ∀ o, (w.alloc (.cells (madeCells #[.int .u8 0] n) 5)).frozen? ⟨w.heap.size, o, none⟩ = false := by
  have hn := heap_alloc_new w (.cells (madeCells #[.int .u8 0] n) 5)
  refine ⟨fun i hi => ?_, fun o => frozen_of_row _ _ _ _ _ hn⟩
  rw [cell_of_row _ _ _ _ _ _ hn]
  simp [madeCells, hi, Nat.mod_one]
theorem Filled.step {g n k : Nat} {w : World} (h : Filled g n k w) (hk : k < n) : Filled g n (k + 1) (w.setCell ⟨g, k, none⟩ (.int .u8 32)) := fun j hj => by
  by_cases e : j = k
  · subst e
    rw [World.cell?_setCell_same _ _ _ (h j hj), if_pos (by omega)]
  · rw [World.cell?_setCell_other _ _ _ _ (by intro e2; injection e2 with _ e3; exact e e3.symm), h j hj]
    by_cases h2 : j < k
    · rw [if_pos h2, if_pos (by omega)]
    · rw [if_neg h2, if_neg (by omega)]
def blankS (n : Nat) : ByteArray := ⟨(List.replicate n (32 : UInt8)).toArray⟩
theorem conv_filled {g n : Nat} {w : World} (hn : n ≤ 140000) (cap : Nat) (h : Filled g n n w) (hg : g < w.heap.size) : (convert 33 9 (.slice (some ⟨g, 0, none⟩) n cap)).run Tryd.prog w = .ok (.string (blankS n)) w := by
  have := Pak.conv_bytes (w := w) (S := fun _ => True) (a := some ⟨g, 0, none⟩) (l := List.replicate n 32) cap ⟨by rw [List.length_replicate]; omega, fun i hi => ?_⟩
  · rw [List.length_replicate] at this; exact this
  · rw [List.length_replicate] at hi
    refine ⟨g, 0, [.int .u8 32], rfl, trivial, fun j u hu => ?_, by simp [Pak.byteSh]⟩
    match j, hu with
    | 0, hu =>
      obtain rfl := Option.some.inj hu
      have := h i hi
      rw [if_pos hi] at this
      simpa [Pak.byteSh] using this
theorem scan_rep : ∀ (m f i : Nat) (ts : List Tok), m ≤ f → scanF f (List.replicate m 32) i ts = .ok ts
  | 0, 0, _, _, _ => rfl
  | 0, _ + 1, _, _, _ => rfl
  | m + 1, 0, _, _, h => by omega
  | m + 1, f + 1, i, ts, h => by
    have e : stp (List.replicate (m + 1) (32 : UInt8)) = .skip 1 := by
      rw [List.replicate_succ, stp, if_pos (by decide)]
    rw [scanF, e]
    simp only [List.replicate_succ, List.drop_succ_cons, List.drop_zero]
    exact scan_rep m f _ ts (by omega)
theorem blank_size (n : Nat) : (blankS n).size = n := by rw [← size_l]; simp [blankS]
theorem res_blank (n : Nat) : resOf (blankS n) = if 65536 < n then (2, -1, []) else (0, -1, []) := by
  unfold resOf
  rw [blank_size]
  by_cases h : 65536 < n
  · rw [if_pos h, if_pos h]
  · rw [if_neg h, if_neg h]
    have e : (blankS n).data.toList = List.replicate n 32 := by simp [blankS]
    rw [e, scan_rep _ _ _ _ (by simp)]
    rfl
theorem Pak_conv {P : Program} {w : World} {ops : Array Oper} {rest : List Oper} {o : Oper} {a0 : Act} {K : Exit → Act → World → Prop} (hgd : o.guard = none) (src dst : TypeId) (x : Operand) (ho : o.op = .convert src dst x)
    (v u : Value) (w2 : World) (hx : a0.eval x = v) (hr : (convert src dst v).run P w = .ok u w2) (hK : wpList P ops K rest (a0.put o.dst u) w2) : wpList P ops K (o :: rest) a0 w :=
  wpList_plain hgd fun K' hK' => by
    unfold Oper.wp
    simp [execOp, ho, hx, hr, Result.andThen]
    exact hK' _ _ hK
set_option maxHeartbeats 8000000 in
theorem scanLong_any (hup : UpSaid13) (n : Int) (w : World) (hL : Laid w) :
    Calls Tryd.prog 5 #[.int .i64 n] w fun e w' => e = .returned (.bool true) ∧ Below w.heap.size w w' := by
  have HUP := Lib.hid (hup w hL)
  have n1 := fun t v W => Tryd.eqIface t v W
  have n2 := fun W => Tryd.eqNil W
  by_cases hbad : n < 0 ∨ 70000 < n
  · have HS := Lib.hid (fun W (hb : Below w.heap.size w W) => scan_any (blankS 3) W (by rw [blank_size]; decide) (hL.up hb))
    clear hL
    rcases hbad with hb0 | hb0
    · go_enter Tryd.func5, Tryd.ntmps5
      go_wp2_with fail
      refine HUP.out.mono ?_
      rintro e w1 ⟨rfl, hb1⟩
      have B1 := Lib.hid hb1
      have hmk := fun W => run_make_bytes W 3 3 (by first | rfl | omega) (by omega)
      obtain ⟨fc, ff⟩ := made_bytes w1 3
      have FC := Lib.hid fc
      have FF := Lib.hid ff
      have hbA : Below w1.heap.size w1 (w1.alloc (.cells (madeCells #[.int .u8 0] 3) 5)) := (Below.refl _ _).alloc (Nat.le_refl _) _
      have BA := Lib.hid hbA
      have hgl : w1.heap.size < (w1.alloc (.cells (madeCells #[.int .u8 0] 3) 5)).heap.size := by simp
      clear hb1 HUP fc ff hbA
      go_wp2_with fail
      generalize w1.alloc (.cells (madeCells #[.int .u8 0] 3) 5) = W1 at *
      go_loopw [5] (fun i wr => ∃ k : Nat, k ≤ 3 ∧ i = .int .i64 k ∧ Hid (Filled w1.heap.size 3 k wr) ∧ Hid (∀ o, wr.frozen? ⟨w1.heap.size, o, none⟩ = false) ∧ Hid (Below w1.heap.size w1 wr) ∧ w1.heap.size < wr.heap.size) (fun i _ => 3 - (intOf i).toNat)
      case atStart => exact ⟨0, Nat.zero_le _, rfl, FC.out, FF.out, BA.out, hgl⟩
      case round =>
        obtain ⟨k, hk, rfl, hfl, hfr, hbr, hgw⟩ := hrel
        by_cases hlt : k < 3
        · have hlti : (k : Int) < 3 := by omega
          have c0 := hfl.out k hlt
          rw [if_neg (Nat.lt_irrefl k)] at c0
          have f0 := hfr.out k
          have HF2 := Lib.hid (hfl.out.step hlt)
          have HFR2 : Hid (∀ o, (wr.setCell ⟨w1.heap.size, k, none⟩ (.int .u8 32)).frozen? ⟨w1.heap.size, o, none⟩ = false) := fun o => by rw [World.frozen?_setCell]; exact hfr.out o
          have HB2 := Lib.hid (hbr.out.setCell (p := ⟨w1.heap.size, k, none⟩) (Nat.le_refl _) (.int .u8 32))
          have hgw2 : w1.heap.size < (wr.setCell ⟨w1.heap.size, k, none⟩ (.int .u8 32)).heap.size := by simpa using hgw
          clear hfl hfr hbr
          go_wp2_with fail
          go_roundw
          case rel => exact ⟨k + 1, by omega, by go_num, HF2, HFR2, HB2, hgw2⟩
          case measure => simp [intOf]; omega
        · obtain rfl : 3 = k := by omega
          have hcv := fun cap => conv_filled (by omega) cap hfl.out hgw
          have HSC := Lib.hid (HS.out wr (B1.out.trans (hbr.out.mono B1.out.size)))
          have HBR := Lib.hid (B1.out.trans (hbr.out.mono B1.out.size))
          clear hfl hfr hbr HS
          by_cases hbig : 65536 < 3
          · have hbigi : (65536 : Int) < 3 := by omega
            rw [res_blank, if_pos hbig] at HSC
            have HCD := Lib.hid (fun W => code_k 2 W (by decide) (by decide))
            go_wp2_with (refine Pak_conv rfl 33 9 _ rfl _ _ _ rfl (hcv _) ?_)
            refine HSC.out.mono ?_
            rintro e w2 ⟨v, er, rfl, hrow, her, hb2⟩
            obtain rfl : er = .iface 39 (.int .i64 2) := her.1 (by decide)
            obtain ⟨a5, cap5, rfl⟩ := TRow.slice hrow
            have B2 := Lib.hid (HBR.out.trans (hb2.mono HBR.out.size))
            clear hrow her hb2 HSC
            go_wp2_with fail
            refine (HCD.out _).mono ?_
            rintro e w3 ⟨rfl, rfl⟩
            go_wp2_with fail
            go_ret
            exact ⟨rfl, B2.out⟩
          · have hbigi : ¬ (65536 : Int) < 3 := by omega
            rw [res_blank, if_neg hbig] at HSC
            go_wp2_with (refine Pak_conv rfl 33 9 _ rfl _ _ _ rfl (hcv _) ?_)
            refine HSC.out.mono ?_
            rintro e w2 ⟨v, er, rfl, hrow, her, hb2⟩
            obtain rfl : er = .nilIface := her.1 (by decide)
            obtain ⟨a5, cap5, rfl⟩ := TRow.slice hrow
            have B2 := Lib.hid (HBR.out.trans (hb2.mono HBR.out.size))
            clear hrow her hb2 HSC
            go_wp2_with fail
            go_ret
            exact ⟨rfl, B2.out⟩
    · have hb1 : ¬ (n < 0) := by omega
      go_enter Tryd.func5, Tryd.ntmps5
      go_wp2_with fail
      refine HUP.out.mono ?_
      rintro e w1 ⟨rfl, hb1⟩
      have B1 := Lib.hid hb1
      have hmk := fun W => run_make_bytes W 3 3 (by first | rfl | omega) (by omega)
      obtain ⟨fc, ff⟩ := made_bytes w1 3
      have FC := Lib.hid fc
      have FF := Lib.hid ff
      have hbA : Below w1.heap.size w1 (w1.alloc (.cells (madeCells #[.int .u8 0] 3) 5)) := (Below.refl _ _).alloc (Nat.le_refl _) _
      have BA := Lib.hid hbA
      have hgl : w1.heap.size < (w1.alloc (.cells (madeCells #[.int .u8 0] 3) 5)).heap.size := by simp
      clear hb1 HUP fc ff hbA
      go_wp2_with fail
      generalize w1.alloc (.cells (madeCells #[.int .u8 0] 3) 5) = W1 at *
      go_loopw [5] (fun i wr => ∃ k : Nat, k ≤ 3 ∧ i = .int .i64 k ∧ Hid (Filled w1.heap.size 3 k wr) ∧ Hid (∀ o, wr.frozen? ⟨w1.heap.size, o, none⟩ = false) ∧ Hid (Below w1.heap.size w1 wr) ∧ w1.heap.size < wr.heap.size) (fun i _ => 3 - (intOf i).toNat)
      case atStart => exact ⟨0, Nat.zero_le _, rfl, FC.out, FF.out, BA.out, hgl⟩
      case round =>
        obtain ⟨k, hk, rfl, hfl, hfr, hbr, hgw⟩ := hrel
        by_cases hlt : k < 3
        · have hlti : (k : Int) < 3 := by omega
          have c0 := hfl.out k hlt
          rw [if_neg (Nat.lt_irrefl k)] at c0
          have f0 := hfr.out k
          have HF2 := Lib.hid (hfl.out.step hlt)
          have HFR2 : Hid (∀ o, (wr.setCell ⟨w1.heap.size, k, none⟩ (.int .u8 32)).frozen? ⟨w1.heap.size, o, none⟩ = false) := fun o => by rw [World.frozen?_setCell]; exact hfr.out o
          have HB2 := Lib.hid (hbr.out.setCell (p := ⟨w1.heap.size, k, none⟩) (Nat.le_refl _) (.int .u8 32))
          have hgw2 : w1.heap.size < (wr.setCell ⟨w1.heap.size, k, none⟩ (.int .u8 32)).heap.size := by simpa using hgw
          clear hfl hfr hbr
          go_wp2_with fail
          go_roundw
          case rel => exact ⟨k + 1, by omega, by go_num, HF2, HFR2, HB2, hgw2⟩
          case measure => simp [intOf]; omega
        · obtain rfl : 3 = k := by omega
          have hcv := fun cap => conv_filled (by omega) cap hfl.out hgw
          have HSC := Lib.hid (HS.out wr (B1.out.trans (hbr.out.mono B1.out.size)))
          have HBR := Lib.hid (B1.out.trans (hbr.out.mono B1.out.size))
          clear hfl hfr hbr HS
          by_cases hbig : 65536 < 3
          · have hbigi : (65536 : Int) < 3 := by omega
            rw [res_blank, if_pos hbig] at HSC
            have HCD := Lib.hid (fun W => code_k 2 W (by decide) (by decide))
            go_wp2_with (refine Pak_conv rfl 33 9 _ rfl _ _ _ rfl (hcv _) ?_)
            refine HSC.out.mono ?_
            rintro e w2 ⟨v, er, rfl, hrow, her, hb2⟩
            obtain rfl : er = .iface 39 (.int .i64 2) := her.1 (by decide)
            obtain ⟨a5, cap5, rfl⟩ := TRow.slice hrow
            have B2 := Lib.hid (HBR.out.trans (hb2.mono HBR.out.size))
            clear hrow her hb2 HSC
            go_wp2_with fail
            refine (HCD.out _).mono ?_
            rintro e w3 ⟨rfl, rfl⟩
            go_wp2_with fail
            go_ret
            exact ⟨rfl, B2.out⟩
          · have hbigi : ¬ (65536 : Int) < 3 := by omega
            rw [res_blank, if_neg hbig] at HSC
            go_wp2_with (refine Pak_conv rfl 33 9 _ rfl _ _ _ rfl (hcv _) ?_)
            refine HSC.out.mono ?_
            rintro e w2 ⟨v, er, rfl, hrow, her, hb2⟩
            obtain rfl : er = .nilIface := her.1 (by decide)
            obtain ⟨a5, cap5, rfl⟩ := TRow.slice hrow
            have B2 := Lib.hid (HBR.out.trans (hb2.mono HBR.out.size))
            clear hrow her hb2 HSC
            go_wp2_with fail
            go_ret
            exact ⟨rfl, B2.out⟩
  · obtain ⟨m, rfl⟩ := Int.eq_ofNat_of_zero_le (show 0 ≤ n by omega)
    have hm : m ≤ 70000 := by omega
    have hb0 : ¬ ((m : Int) < 0) := by omega
    have hb1 : ¬ ((70000 : Int) < (m : Int)) := by omega
    have HS := Lib.hid (fun W (hb : Below w.heap.size w W) => scan_any (blankS m) W (by rw [blank_size]; omega) (hL.up hb))
    clear hL hbad
    go_enter Tryd.func5, Tryd.ntmps5
    go_wp2_with fail
    refine HUP.out.mono ?_
    rintro e w1 ⟨rfl, hb1⟩
    have B1 := Lib.hid hb1
    have hmk := fun W => run_make_bytes W (m : Int) m (by first | rfl | omega) (by omega)
    obtain ⟨fc, ff⟩ := made_bytes w1 m
    have FC := Lib.hid fc
    have FF := Lib.hid ff
    have hbA : Below w1.heap.size w1 (w1.alloc (.cells (madeCells #[.int .u8 0] m) 5)) := (Below.refl _ _).alloc (Nat.le_refl _) _
    have BA := Lib.hid hbA
    have hgl : w1.heap.size < (w1.alloc (.cells (madeCells #[.int .u8 0] m) 5)).heap.size := by simp
    clear hb1 HUP fc ff hbA
    go_wp2_with fail
    generalize w1.alloc (.cells (madeCells #[.int .u8 0] m) 5) = W1 at *
    go_loopw [5] (fun i wr => ∃ k : Nat, k ≤ m ∧ i = .int .i64 k ∧ Hid (Filled w1.heap.size m k wr) ∧ Hid (∀ o, wr.frozen? ⟨w1.heap.size, o, none⟩ = false) ∧ Hid (Below w1.heap.size w1 wr) ∧ w1.heap.size < wr.heap.size) (fun i _ => m - (intOf i).toNat)
    case atStart => exact ⟨0, Nat.zero_le _, rfl, FC.out, FF.out, BA.out, hgl⟩
    case round =>
      obtain ⟨k, hk, rfl, hfl, hfr, hbr, hgw⟩ := hrel
      by_cases hlt : k < m
      · have hlti : (k : Int) < (m : Int) := by omega
        have c0 := hfl.out k hlt
        rw [if_neg (Nat.lt_irrefl k)] at c0
        have f0 := hfr.out k
        have HF2 := Lib.hid (hfl.out.step hlt)
        have HFR2 : Hid (∀ o, (wr.setCell ⟨w1.heap.size, k, none⟩ (.int .u8 32)).frozen? ⟨w1.heap.size, o, none⟩ = false) := fun o => by rw [World.frozen?_setCell]; exact hfr.out o
        have HB2 := Lib.hid (hbr.out.setCell (p := ⟨w1.heap.size, k, none⟩) (Nat.le_refl _) (.int .u8 32))
        have hgw2 : w1.heap.size < (wr.setCell ⟨w1.heap.size, k, none⟩ (.int .u8 32)).heap.size := by simpa using hgw
        clear hfl hfr hbr
        go_wp2_with fail
        go_roundw
        case rel => exact ⟨k + 1, by omega, by go_num, HF2, HFR2, HB2, hgw2⟩
        case measure => simp [intOf]; omega
      · obtain rfl : m = k := by omega
        have hcv := fun cap => conv_filled (by omega) cap hfl.out hgw
        have HSC := Lib.hid (HS.out wr (B1.out.trans (hbr.out.mono B1.out.size)))
        have HBR := Lib.hid (B1.out.trans (hbr.out.mono B1.out.size))
        clear hfl hfr hbr HS
        by_cases hbig : 65536 < m
        · have hbigi : (65536 : Int) < (m : Int) := by omega
          rw [res_blank, if_pos hbig] at HSC
          have HCD := Lib.hid (fun W => code_k 2 W (by decide) (by decide))
          go_wp2_with (refine Pak_conv rfl 33 9 _ rfl _ _ _ rfl (hcv _) ?_)
          refine HSC.out.mono ?_
          rintro e w2 ⟨v, er, rfl, hrow, her, hb2⟩
          obtain rfl : er = .iface 39 (.int .i64 2) := her.1 (by decide)
          obtain ⟨a5, cap5, rfl⟩ := TRow.slice hrow
          have B2 := Lib.hid (HBR.out.trans (hb2.mono HBR.out.size))
          clear hrow her hb2 HSC
          go_wp2_with fail
          refine (HCD.out _).mono ?_
          rintro e w3 ⟨rfl, rfl⟩
          go_wp2_with fail
          go_ret
          exact ⟨rfl, B2.out⟩
        · have hbigi : ¬ (65536 : Int) < (m : Int) := by omega
          rw [res_blank, if_neg hbig] at HSC
          go_wp2_with (refine Pak_conv rfl 33 9 _ rfl _ _ _ rfl (hcv _) ?_)
          refine HSC.out.mono ?_
          rintro e w2 ⟨v, er, rfl, hrow, her, hb2⟩
          obtain rfl : er = .nilIface := her.1 (by decide)
          obtain ⟨a5, cap5, rfl⟩ := TRow.slice hrow
          have B2 := Lib.hid (HBR.out.trans (hb2.mono HBR.out.size))
          clear hrow her hb2 HSC
          go_wp2_with fail
          go_ret
          exact ⟨rfl, B2.out⟩
end Go.Proofs.YtceknhhdgmappaaDoor
