/- prop.Check. -/
import Derived.Test.YtlnkgemndojdnaaDoorPrpM
set_option linter.unusedVariables false
set_option linter.unusedSimpArgs false
namespace Go.Proofs.YtlnkgemndojdnaaDoor
set_option maxRecDepth 100000
open Go.RowKit

/-- The number of an error, as an error. -/
def codeV (k : Int) : Value := if k = 0 then .nilIface else .iface 36 (.int .i64 k)
def sumTo (cs : List (List Int)) : Nat → Nat
  | 0 => 0
  | k + 1 => sumTo cs k + (cs.getD k []).length
theorem sumTo_mono (cs : List (List Int)) {j k : Nat} (h : j ≤ k) : sumTo cs j ≤ sumTo cs k := by
  induction h with
  | refl => exact Nat.le_refl _
  | step _ ih => exact Nat.le_trans ih (Nat.le_add_right _ _)
def chkK (n : Int) (cs : List (List Int)) : Int :=
  if n < 0 ∨ 8192 < n then 1 else if 16384 < cs.length then 2 else if 131072 < sumTo cs cs.length then 2 else if cs.all (litsB n) = true then 0 else 5
theorem chkK_in (n : Int) (cs : List (List Int)) : 0 ≤ chkK n cs ∧ chkK n cs ≤ 5 := by unfold chkK; repeat (first | split | omega)
theorem all_get {n : Int} {cs : List (List Int)} : cs.all (litsB n) = true ↔ ∀ j, j < cs.length → litsB n (cs.getD j []) = true := by
  constructor
  · intro h j hj
    rw [List.getD_eq_getElem?_getD, List.getElem?_eq_getElem hj]
    exact List.all_eq_true.1 h _ (List.getElem_mem hj)
  · intro h
    refine List.all_eq_true.2 fun c hc => ?_
    obtain ⟨i, hi, rfl⟩ := List.getElem_of_mem hc
    have := h i hi
    rwa [List.getD_eq_getElem?_getD, List.getElem?_eq_getElem hi] at this
theorem chkK_zero {n : Int} {cs : List (List Int)} (h : chkK n cs = 0) : ∃ m : Nat, n = m ∧ m ≤ 8192 ∧ cs.length ≤ 16384 ∧ (∀ c, c ∈ cs → c.length ≤ 131072) ∧ ∀ c, c ∈ cs → ∀ x, x ∈ c → inR m x := by
  unfold chkK at h
  by_cases h1 : n < 0 ∨ 8192 < n
  · rw [if_pos h1] at h; cases h
  · rw [if_neg h1] at h
    by_cases h2 : 16384 < cs.length
    · rw [if_pos h2] at h; cases h
    · rw [if_neg h2] at h
      by_cases h3 : 131072 < sumTo cs cs.length
      · rw [if_pos h3] at h; cases h
      · rw [if_neg h3] at h
        by_cases h4 : cs.all (litsB n) = true
        · obtain ⟨m, rfl⟩ := Int.eq_ofNat_of_zero_le (show 0 ≤ n by omega)
          refine ⟨m, rfl, by omega, by omega, fun c hc => ?_, fun c hc => litsB_iff.1 (List.all_eq_true.1 h4 c hc)⟩
          obtain ⟨i, hi, rfl⟩ := List.getElem_of_mem hc
          have := sumTo_mono cs (show i + 1 ≤ cs.length by omega)
          have e : sumTo cs (i + 1) = sumTo cs i + (cs.getD i []).length := rfl
          rw [List.getD_eq_getElem?_getD, List.getElem?_eq_getElem hi, Option.getD_some] at e
          omega
        · rw [if_neg h4] at h; cases h

set_option maxRecDepth 100000 in
set_option maxHeartbeats 2000000 in
theorem check_any (n : Int) (a : Option Addr) (m cap : Nat) (cs : List (List Int)) (w : World) (hm : cs.length = m) (hmm : m ≤ 9223372036854775807) (hl : CLies w.heap.size w a cs) (hk : m ≤ 16384 → ∀ j, j < m → (cs.getD j []).length ≤ 4611686018427387904) :
    Calls Tryd.prog 16 #[.int .i64 n, .slice a m cap] w fun e w' => e = .returned (codeV (chkK n cs)) ∧ Below w.heap.size w w' := by
  by_cases h1 : n < 0 ∨ 8192 < n
  · have e : codeV (chkK n cs) = .iface 36 (.int .i64 1) := by unfold chkK; rw [if_pos h1]; rfl
    rw [e]
    by_cases h2 : n < 0
    · go_enter Tryd.func16, Tryd.ntmps16
      go_wp2_with fail
      go_ret
      exact ⟨rfl, Below.refl _ _⟩
    · have h3 : 8192 < n := by omega
      go_enter Tryd.func16, Tryd.ntmps16
      go_wp2_with fail
      go_ret
      exact ⟨rfl, Below.refl _ _⟩
  · have h2 : ¬ n < 0 := by omega
    have h3 : ¬ 8192 < n := by omega
    by_cases h4 : 16384 < m
    · have e : codeV (chkK n cs) = .iface 36 (.int .i64 2) := by unfold chkK; rw [if_neg h1, if_pos (by omega)]; rfl
      rw [e]
      go_enter Tryd.func16, Tryd.ntmps16
      go_wp2_with fail
      go_ret
      exact ⟨rfl, Below.refl _ _⟩
    · have hk := hk (by omega)
      have HE : Hid (chkK n cs = if 131072 < sumTo cs m then 2 else if cs.all (litsB n) = true then 0 else 5) := by
        show _ = _
        unfold chkK; rw [if_neg h1, if_neg (by omega), hm]
      have HL := Lib.hid hl
      have HM := Lib.hid hm
      have HK := Lib.hid hk
      have HS := Lib.hid (fun W j (hj : j < m) (hb : Below w.heap.size w W) (ta : Option Addr) (tcap : Nat) (hn9 : Nums w.heap.size w ta (cs.getD j [])) => sound_any n ⟨by omega, by omega⟩ ta (cs.getD j []).length tcap (cs.getD j []) W rfl (by have := hk j hj; omega) ((hn9.below hb).mono hb.size))
      generalize hr : chkK n cs = r at HE ⊢
      clear hl hm hk hr h1
      go_enter Tryd.func16, Tryd.ntmps16
      go_wp2_with fail
      go_loop [5, 23] (fun s i => ∃ k : Nat, k ≤ m ∧ i = .int .i64 k ∧ s = .int .i64 (sumTo cs k) ∧ Hid (sumTo cs k ≤ 131072)) (fun _ i => m - (intOf i).toNat)
      case atStart => exact ⟨0, Nat.zero_le _, rfl, rfl, Nat.zero_le _⟩
      case round =>
        obtain ⟨k, hk, rfl, rfl, hs⟩ := hrel
        by_cases hlt : k < m
        · obtain ⟨b, off, ta, tcap, rfl, hblt, c1, _⟩ := HL.out k (by rw [HM.out]; exact hlt)
          have HN : Hid (sumTo cs (k + 1) = sumTo cs k + (cs.getD k []).length) := rfl
          have HMO : Hid (sumTo cs (k + 1) ≤ sumTo cs m) := sumTo_mono cs hlt
          have hkl := HK.out k hlt
          have hs1 := hs.out
          generalize (cs.getD k []).length = len at c1 HN hkl
          generalize sumTo cs k = sk at HN hs1
          by_cases hgt : 131072 < sk + len
          · have hr := HE.out
            rw [if_pos (by have := HN.out; have := HMO.out; omega)] at hr
            subst hr
            clear HE HS HN HMO hs
            have hgt2 : (131072 : Int) < (sk : Int) + (len : Int) := by omega
            go_wp2_with fail
            go_ret
            exact ⟨rfl, Below.refl _ _⟩
          · have HS1 : Hid (sumTo cs (k + 1) ≤ 131072) := by show _ ≤ _; rw [HN.out]; omega
            have hgt2 : ¬ (131072 : Int) < (sk : Int) + (len : Int) := by omega
            clear HE HS HMO hs
            go_wp2_with fail
            go_round
            case rel => exact ⟨k + 1, by omega, by go_num, by rw [HN.out]; go_num, HS1⟩
            case measure => simp [intOf]; omega
        · obtain rfl : k = m := by omega
          have HE2 : Hid (r = if cs.all (litsB n) = true then 0 else 5) := by
            have := HE.out
            rwa [if_neg (by have := hs.out; omega)] at this
          clear HE hs
          go_wp2_with fail
          go_loopw [37] (fun i wr => ∃ j : Nat, j ≤ k ∧ i = .int .i64 j ∧ Hid (∀ q, q < j → litsB n (cs.getD q []) = true) ∧ Hid (Below w.heap.size w wr)) (fun i _ => k - (intOf i).toNat)
          case atStart => exact ⟨0, Nat.zero_le _, rfl, fun q hq => absurd hq (Nat.not_lt_zero _), Below.refl _ _⟩
          case round =>
            obtain ⟨j, hj, rfl, hal, hb⟩ := hrel
            by_cases hlt : j < k
            · obtain ⟨b, off, ta, tcap, rfl, hblt, c1, cn⟩ := HL.out j (by rw [HM.out]; exact hlt)
              rw [← hb.out.cell (p := ⟨b, _, none⟩) hblt] at c1
              have HC := Lib.hid (HS.out wr j hlt hb.out ta tcap cn)
              have HBD := Lib.hid hb.out
              have HY : Hid (litsB n (cs.getD j []) = true → ∀ q, q < j + 1 → litsB n (cs.getD q []) = true) := fun h q hq => by
                by_cases e : q = j
                · subst e; exact h
                · exact hal.out q (by omega)
              have HNO : Hid (litsB n (cs.getD j []) = false → r = 5) := fun h => by
                rw [HE2.out, if_neg]
                intro h9
                have := all_get.1 h9 j (by rw [HM.out]; exact hlt)
                rw [h] at this; cases this
              clear cn hal hb HS HE2
              cases hbb : litsB n (cs.getD j [])
              · obtain rfl := HNO.out hbb
                rw [hbb] at HC
                clear HY HNO hbb
                generalize (cs.getD j []).length = len at c1 HC
                go_wp2_with fail
                refine HC.out.mono ?_
                rintro e w' ⟨rfl, hb'⟩
                have HB9 := Lib.hid (HBD.out.trans (hb'.mono HBD.out.size))
                clear hb' HC
                go_wp2_with fail
                go_ret
                exact ⟨rfl, HB9.out⟩
              · have HY2 := Lib.hid (HY.out hbb)
                rw [hbb] at HC
                clear HY HNO hbb
                generalize (cs.getD j []).length = len at c1 HC
                go_wp2_with fail
                refine HC.out.mono ?_
                rintro e w' ⟨rfl, hb'⟩
                have HB9 := Lib.hid (HBD.out.trans (hb'.mono HBD.out.size))
                clear hb' HC
                go_wp2_with fail
                go_roundw
                case rel => exact ⟨j + 1, by omega, by go_num, HY2, HB9⟩
                case measure => simp [intOf]; omega
            · obtain rfl : j = k := by omega
              have hr := HE2.out
              rw [if_pos (all_get.2 (by rw [HM.out]; exact hal.out))] at hr
              subst hr
              clear HE2 HS hal
              go_wp2_with fail
              go_ret
              exact ⟨rfl, hb.out⟩
end Go.Proofs.YtlnkgemndojdnaaDoor
