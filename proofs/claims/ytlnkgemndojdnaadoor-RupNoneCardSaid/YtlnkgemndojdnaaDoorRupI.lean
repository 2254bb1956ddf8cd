/- RupNone: its walk. -/
import Derived.Test.YtlnkgemndojdnaaDoorRupH
set_option linter.unusedVariables false
set_option linter.unusedSimpArgs false
namespace Go.Proofs.YtlnkgemndojdnaaDoor
set_option maxRecDepth 100000
open Go.RowKit

theorem Tryd.infoBool : (Tryd.prog.info? 4).map (fun i => (i.zero, i.size, i.bytes)) = some (some (.bool false), 1, 1) := by kernel_rfl
theorem run_make_bools (W : World) (n : Nat) (hn : n ≤ 40000) : (Instr.makeSlice 31 (.int .i64 n) (.int .i64 n)).run Tryd.prog W = .ok (.slice (some ⟨W.heap.size, 0, none⟩) n n) (W.alloc (.cells (madeCells #[.bool false] n) 4)) := by
  obtain ⟨i0, hi, hz0, hz1, hz2⟩ := info_parts Tryd.infoBool
  have := run_make (P := Tryd.prog) W 31 4 i0 _ Tryd.underlying31 hi hz0 .i64 .i64 n n (by omega) (Int.le_refl _) (by rw [hz2]; omega) (by omega)
  rw [hz1] at this
  simpa [Value.cells] using this
/-- A row of bools of the call's own. -/
structure BOwn (b n : Nat) (wr : World) : Prop where
  arr : ∀ i, i < n → ∃ v, wr.cell? ⟨b, i, none⟩ = some (.bool v)
  fr : ∀ o, wr.frozen? ⟨b, o, none⟩ = false
  lt : b < wr.heap.size
theorem BOwn.set {b n : Nat} {wr : World} (h : BOwn b n wr) {i : Nat} (hi : i < n) (v : Bool) : BOwn b n (wr.setCell ⟨b, i, none⟩ (.bool v)) := by
  refine ⟨fun j hj => ?_, fun o => (World.frozen?_setCell _ _ _ _).trans (h.fr o), by rw [World.size_setCell]; exact h.lt⟩
  by_cases e : j = i
  · subst e
    obtain ⟨v0, h0⟩ := h.arr j hj
    exact ⟨v, World.cell?_setCell_same _ _ _ h0⟩
  · obtain ⟨v0, h0⟩ := h.arr j hj
    exact ⟨v0, (World.cell?_setCell_other _ _ _ _ (by simp <;> omega)).trans h0⟩
theorem madeB (w : World) (n : Nat) : BOwn w.heap.size n (w.alloc (.cells (madeCells #[.bool false] n) 4)) := by
  have hn := heap_alloc_new w (.cells (madeCells #[.bool false] n) 4)
  refine ⟨fun i hi => ⟨false, ?_⟩, fun o => frozen_of_row _ _ _ _ _ hn, lt_of_some hn⟩
  rw [cell_of_row _ _ _ _ _ _ hn]
  simp [madeCells, hi, Nat.mod_one]
theorem BOwn.bools {b n : Nat} {wr : World} (h : BOwn b n wr) : ∃ vs : List Bool, vs.length = n ∧ Bools wr.heap.size wr (some ⟨b, 0, none⟩) vs := by
  obtain ⟨vs, h1, h2⟩ := list_ofD false n (fun i v => wr.cell? ⟨b, i, none⟩ = some (.bool v)) h.arr
  exact ⟨vs, h1, fun i hi => ⟨b, 0, rfl, h.lt, by rw [Nat.zero_add]; exact h2 i (by omega)⟩⟩
theorem two_pow (n : Nat) (hn : n ≤ 8) : ∃ P : Nat, P ≤ 256 ∧ IntKind.i64.wrap ((2 : Int) ^ n) = P := by
  match n, hn with
  | 0, _ => exact ⟨1, by decide, by decide⟩
  | 1, _ => exact ⟨2, by decide, by decide⟩
  | 2, _ => exact ⟨4, by decide, by decide⟩
  | 3, _ => exact ⟨8, by decide, by decide⟩
  | 4, _ => exact ⟨16, by decide, by decide⟩
  | 5, _ => exact ⟨32, by decide, by decide⟩
  | 6, _ => exact ⟨64, by decide, by decide⟩
  | 7, _ => exact ⟨128, by decide, by decide⟩
  | 8, _ => exact ⟨256, by decide, by decide⟩
set_option maxHeartbeats 4000000 in
theorem rupNone_any (hup : UpSaid7) (hbeg : BeginSaid) (n : Int) (a : Option Addr) (m cap : Nat) (cs : List (List Int)) (a2 : Option Addr) (m2 cap2 : Nat) (ss : List (List Int)) (w : World) (h1 : GivenC w a m cs) (h2 : GivenC w a2 m2 ss) (hg : Laid0 w) :
    Calls Tryd.prog 5 #[.int .i64 n, .slice a m cap, .slice a2 m2 cap2] w fun e w' => e = .returned (.bool true) ∧ Below w.heap.size w w' := by
  have HUP := Lib.hid (hup w hg)
  have H1 := Lib.hid h1
  have H2 := Lib.hid h2
  have HLI := Lib.hid (fun W (g1 : GivenC W a m cs) (g2 : GivenC W a2 m2 ss) => easy_any n a m cap cs a2 m2 cap2 ss W g1 g2)
  have HRU := Lib.hid (fun W (g1 : GivenC W a m cs) (g2 : GivenC W a2 m2 ss) (hf : Easy n cs ss) => rup_any hbeg n a m cap cs a2 m2 cap2 ss W g1 g2 hf.few)
  have n1 := fun t v W => Tryd.neIface t v W
  have n2 := fun W => Tryd.neNil W
  clear hup hbeg h1 h2 hg
  go_enter Tryd.func5, Tryd.ntmps5
  go_wp2_with fail
  refine HUP.out.mono ?_
  rintro e w1 ⟨rfl, hb1⟩
  have B1 := Lib.hid hb1
  clear hb1 HUP
  go_wp2_with fail
  refine (HLI.out _ (H1.out.below B1.out) (H2.out.below B1.out)).mono ?_
  rintro e w2 ⟨b, rfl, rfl, hlt⟩
  cases b with
  | false =>
    clear hlt
    go_wp2_with fail
    go_ret
    exact ⟨rfl, B1.out⟩
  | true =>
    have HE := Lib.hid (hlt rfl)
    clear hlt HLI
    by_cases hn0 : n < 0
    · go_wp2_with fail
      go_ret
      exact ⟨rfl, B1.out⟩
    · by_cases hn8 : 8 < n
      · have hn8' : n > 8 := hn8
        go_wp2_with fail
        go_ret
        exact ⟨rfl, B1.out⟩
      · have hn8' : ¬ n > 8 := hn8
        obtain ⟨n0, rfl⟩ := Int.eq_ofNat_of_zero_le (show 0 ≤ n by omega)
        have hn : n0 ≤ 8 := by omega
        go_wp2_with fail
        refine (HRU.out _ (H1.out.below B1.out) (H2.out.below B1.out) HE.out).mono ?_
        rintro e w3 ⟨er, x, at', rfl, hr, he, hb3⟩
        have B3 := Lib.hid (B1.out.trans (hb3.mono B1.out.size))
        have hcase : (∃ t v, er = .iface t v) ∨ (er = .nilIface ∧ Hid (∀ vs : List Bool, vs.length = n0 → valB cs vs = false)) := by
          by_cases h0 : at' < 0
          · have e1 := he.1 h0
            by_cases hx : x = 0
            · exact .inr ⟨by rw [e1, hx]; rfl, fun vs hv => rup_none hr hx (by omega)⟩
            · exact .inl ⟨_, _, by rw [e1]; exact codeV_ne hx⟩
          · obtain ⟨g, e1, _⟩ := he.2 (by omega)
            exact .inl ⟨_, _, e1⟩
        clear hr he hb3 HRU
        rcases hcase with ⟨t, v, rfl⟩ | ⟨rfl, HV⟩
        · go_wp2_with fail
          go_ret
          exact ⟨rfl, B3.out⟩
        · obtain ⟨P, hP, hpw⟩ := two_pow n0 hn
          go_wp2_with fail
          go_loopw [10] (fun i wr => ∃ k : Nat, k ≤ P ∧ i = .int .i64 k ∧ Hid (Below w3.heap.size w3 wr)) (fun i _ => P - (intOf i).toNat)
          case atStart => exact ⟨0, Nat.zero_le _, rfl, Below.refl _ _⟩
          case round =>
            obtain ⟨k, hk, rfl, hb4⟩ := hrel
            obtain ⟨wo, rfl⟩ : ∃ wo : World, wo = wr := ⟨_, rfl⟩
            have BO := Lib.hid (B3.out.trans (hb4.out.mono B3.out.size))
            by_cases hkP : k < P
            · have hkPi : (k : Int) < (P : Int) := by omega
              have hmk := fun W => run_make_bools W n0 (by omega)
              have HM := Lib.hid (madeB wo n0)
              have HAL : Hid (Below wo.heap.size wo (wo.alloc (.cells (madeCells #[.bool false] n0) 4))) := (Below.refl _ wo).alloc (Nat.le_refl _) _
              go_wp2_with fail
              go_loopw [12] (fun i wr => ∃ j : Nat, j ≤ n0 ∧ i = .int .i64 j ∧ Hid (BOwn wo.heap.size n0 wr) ∧ Hid (Below wo.heap.size wo wr)) (fun i _ => n0 - (intOf i).toNat)
              case atStart => exact ⟨0, Nat.zero_le _, rfl, HM, HAL⟩
              case round =>
                obtain ⟨j, hj, rfl, hbo, hb5⟩ := hrel
                by_cases hjn : j < n0
                · have hjni : (j : Int) < (n0 : Int) := by omega
                  obtain ⟨v0, c0⟩ := hbo.out.arr j hjn
                  have f0 := hbo.out.fr j
                  have HST := Lib.hid (fun v => hbo.out.set hjn v)
                  clear HM HAL
                  go_wp2_with fail
                  go_roundw
                  case rel => exact ⟨j + 1, by omega, by go_num, HST.out _, hb5.out.setCell (p := ⟨wo.heap.size, j, none⟩) (Nat.le_refl _) _⟩
                  case measure => simp [intOf]; omega
                · obtain rfl : j = n0 := by omega
                  obtain ⟨vs, hvl, hvb⟩ := hbo.out.bools
                  have BW := Lib.hid (BO.out.trans (hb5.out.mono BO.out.size))
                  have g1 := H1.out.below BW.out
                  have HRV := Lib.hid (rvalue_any a m cap cs _ j j vs wr g1.hm g1.hmm g1.hl g1.hlen hvl (by omega) hvb)
                  rw [HV.out vs hvl] at HRV
                  have hb6 : Hid (Below w3.heap.size w3 wr) := hb4.out.trans (hb5.out.mono hb4.out.size)
                  clear g1 hvb hvl hbo HM HAL hb5
                  go_wp2_with fail
                  refine HRV.out.mono ?_
                  rintro e w6 ⟨rfl, rfl⟩
                  go_wp2_with fail
                  go_roundw
                  case rel => exact ⟨k + 1, by omega, by go_num, hb6⟩
                  case measure => simp [intOf]; omega
            · obtain rfl : k = P := by omega
              go_wp2_with fail
              go_ret
              exact ⟨rfl, BO.out⟩
end Go.Proofs.YtlnkgemndojdnaaDoor
