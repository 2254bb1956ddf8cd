/- HeapJoins: its walk. -/
import Derived.Test.YteiomafciignkaaHepJd
import Derived.Test.YteiomafciignkaaHepSo
import Derived.Test.YteiomafciignkaaHepN
import Derived.Test.YteiomafciignkaaHepT
set_option linter.unusedVariables false
set_option linter.unusedSimpArgs false
namespace Go.Proofs.Yteiomafciignkaa
set_option maxRecDepth 100000
open Go.RowKit

theorem below_self {w W : World} (h : Below w.heap.size w W) : Hid (Below w.heap.size w W) := h
theorem boundV_of {xs : List HC} {n : Nat} {b : Int} (hn : xs.length = n) (h : ∀ j, j < n → -b ≤ (xs.getD j hc0).v ∧ (xs.getD j hc0).v ≤ b) : BoundV xs b := fun c hc => by
  obtain ⟨i, hi, e⟩ := List.mem_iff_getElem.1 hc
  have := h i (by omega)
  rw [List.getD_eq_getElem?_getD, List.getElem?_eq_getElem hi, e] at this
  exact this
set_option maxHeartbeats 8000000 in
theorem heapJoins_any (ad : Option Addr) (n cap : Nat) (xs : List HC) (ad2 : Option Addr) (n2 cap2 : Nat) (ys : List HC) (w : World) (h : CameH w ad n cap xs) (h2 : CameH w ad2 n2 cap2 ys) :
    Calls Try.prog 5 #[.slice ad n cap, .slice ad2 n2 cap2] w fun e w' => e = .returned (.bool true) ∧ Below w.heap.size w w' := by
  have HUP := Lib.hid (up_said17 w)
  have HL := Lib.hid h.lies
  have HL2 := Lib.hid h2.lies
  have HN := Lib.hid h.hn
  have HN2 := Lib.hid h2.hn
  clear h h2
  by_cases hb1 : (100 : Int) < (n : Int)
  · go_enter Try.func5, Try.ntmps5
    go_wp2_with fail
    refine HUP.out.mono ?_
    rintro e w1 ⟨rfl, hb1⟩
    go_wp2_with fail
    go_ret
    exact ⟨rfl, hb1⟩
  · by_cases hb2 : (100 : Int) < (n2 : Int)
    · go_enter Try.func5, Try.ntmps5
      go_wp2_with fail
      refine HUP.out.mono ?_
      rintro e w1 ⟨rfl, hb1⟩
      go_wp2_with fail
      go_ret
      exact ⟨rfl, hb1⟩
    · have hnm : n ≤ 100 := by omega
      have hnm2 : n2 ≤ 100 := by omega
      go_enter Try.func5, Try.ntmps5
      go_wp2_with fail
      refine HUP.out.mono ?_
      rintro e w1 ⟨rfl, hbw⟩
      have B1 := Lib.hid hbw
      clear hbw HUP
      go_wp2_with fail
      go_loopw [6] (fun i wr => ∃ k : Nat, i = .int .i64 k ∧ k ≤ n ∧ w1 = wr ∧ Hid (∀ j, j < k → -1099511627776 ≤ (xs.getD j hc0).v ∧ (xs.getD j hc0).v ≤ 1099511627776)) (fun i _ => n - (intOf i).toNat)
      case atStart => exact ⟨0, rfl, Nat.zero_le _, rfl, fun j hj => absurd hj (Nat.not_lt_zero j)⟩
      case round =>
        obtain ⟨k, rfl, hk, rfl, hbd⟩ := hrel
        by_cases hlt : k < n
        · have hlti : (k : Int) < (n : Int) := by omega
          obtain ⟨b3, off3, rfl, hb3, c1, c2, c3⟩ := HL.out k (by rw [HN.out]; exact hlt)
          have q3 := (B1.out.cell (p := ⟨b3, _, none⟩) hb3).trans c3
          have HNX : Hid (-1099511627776 ≤ (xs.getD k hc0).v ∧ (xs.getD k hc0).v ≤ 1099511627776 → ∀ j, j < k + 1 → -1099511627776 ≤ (xs.getD j hc0).v ∧ (xs.getD j hc0).v ≤ 1099511627776) := fun h j hj => by
            by_cases e : j = k
            · rw [e]; exact h
            · exact hbd.out j (by omega)
          clear c1 c2 c3 hbd
          generalize (xs.getD k hc0).v = v at q3 HNX
          by_cases g1 : (1099511627776 : Int) < v
          · go_wp2_with fail
            go_ret
            exact ⟨rfl, B1.out⟩
          · by_cases g2 : v < -1099511627776
            · go_wp2_with fail
              go_ret
              exact ⟨rfl, B1.out⟩
            · have HK := Lib.hid (HNX.out ⟨by omega, by omega⟩)
              clear HNX
              go_wp2_with fail
              go_roundw
              case rel => exact ⟨k + 1, by go_num, by omega, by trivial, HK⟩
              case measure => clear q3; simp [intOf]; omega
        · have hlti : ¬ (k : Int) < (n : Int) := by omega
          have HBX : Hid (BoundV xs 1099511627776) := boundV_of HN.out (fun j hj => hbd.out j (by omega))
          clear hbd
          go_wp2_with fail
          go_loopw [7] (fun i wr => ∃ k : Nat, i = .int .i64 k ∧ k ≤ n2 ∧ w1 = wr ∧ Hid (∀ j, j < k → -1099511627776 ≤ (ys.getD j hc0).v ∧ (ys.getD j hc0).v ≤ 1099511627776)) (fun i _ => n2 - (intOf i).toNat)
          case atStart => exact ⟨0, rfl, Nat.zero_le _, rfl, fun j hj => absurd hj (Nat.not_lt_zero j)⟩
          case round =>
            obtain ⟨k2, rfl, hk2, rfl, hbd⟩ := hrel
            by_cases hlt2 : k2 < n2
            · have hlti2 : (k2 : Int) < (n2 : Int) := by omega
              obtain ⟨b3, off3, rfl, hb3, c1, c2, c3⟩ := HL2.out k2 (by rw [HN2.out]; exact hlt2)
              have q3 := (B1.out.cell (p := ⟨b3, _, none⟩) hb3).trans c3
              have HNX : Hid (-1099511627776 ≤ (ys.getD k2 hc0).v ∧ (ys.getD k2 hc0).v ≤ 1099511627776 → ∀ j, j < k2 + 1 → -1099511627776 ≤ (ys.getD j hc0).v ∧ (ys.getD j hc0).v ≤ 1099511627776) := fun h j hj => by
                by_cases e : j = k2
                · rw [e]; exact h
                · exact hbd.out j (by omega)
              clear c1 c2 c3 hbd
              generalize (ys.getD k2 hc0).v = v at q3 HNX
              by_cases g1 : (1099511627776 : Int) < v
              · go_wp2_with fail
                go_ret
                exact ⟨rfl, B1.out⟩
              · by_cases g2 : v < -1099511627776
                · go_wp2_with fail
                  go_ret
                  exact ⟨rfl, B1.out⟩
                · have HK := Lib.hid (HNX.out ⟨by omega, by omega⟩)
                  clear HNX
                  go_wp2_with fail
                  go_roundw
                  case rel => exact ⟨k2 + 1, by go_num, by omega, by trivial, HK⟩
                  case measure => clear q3; simp [intOf]; omega
            · have hlti2 : ¬ (k2 : Int) < (n2 : Int) := by omega
              have HBD : Hid (BoundV (xs ++ ys) 1099511627776) := fun c hc => (List.mem_append.1 hc).elim (HBX.out c) ((boundV_of HN2.out (fun j hj => hbd.out j (by omega))) c)
              have HJ := Lib.hid (join_any xs ys (sort_said _ (by rw [List.length_append, HN.out, HN2.out]; omega)) ad n cap ad2 n2 cap2 w1 HN.out HN2.out hnm hnm2 HBD.out (HL.out.up B1.out) (HL2.out.up B1.out))
              have HRJ := Lib.hid (fun W (hb : Below w.heap.size w W) => rjoin_any xs ys ad n cap ad2 n2 cap2 W HN.out HN2.out hnm hnm2 HBD.out (HL.out.up hb) (HL2.out.up hb))
              clear hbd HBX
              go_wp2_with fail
              refine HJ.out.mono ?_
              rintro e w2 ⟨v2, zs, rfl, hs, hr2, hb2⟩
              have B2 := Lib.hid (B1.out.trans (hb2.mono B1.out.size))
              have HE : Hid (joinTo zs zs.length = joinD (xs ++ ys)) := join_is hs
              have HR2 := Lib.hid hr2
              clear hs hr2 hb2 HJ
              go_wp2_with fail
              refine (HRJ.out w2 B2.out).mono ?_
              rintro e w3 ⟨v3, rfl, hr3, hb3⟩
              have B3 := Lib.hid (B2.out.trans (hb3.mono B2.out.size))
              obtain ⟨a4, cap4, rfl, k4, k5, l4⟩ := (HR2.out.below hb3).lies
              obtain ⟨a5, cap5, rfl, k6, k7, l5⟩ := hr3.lies
              have HS := Lib.hid (sames_any _ _ a4 _ cap4 a5 _ cap5 w3 rfl rfl (by omega) (by omega) l4 l5)
              clear hr3 hb3 HRJ HR2 l4 l5 k4 k5 k6 k7
              generalize (joinTo zs zs.length).length = m4 at HS ⊢
              generalize (joinD (xs ++ ys)).length = m5 at HS ⊢
              go_wp2_with fail
              refine HS.out.mono ?_
              rintro e w4 ⟨b, rfl, hbe, hb4⟩
              obtain rfl : b = true := hbe.2 HE.out
              have B4 := Lib.hid (B3.out.trans (hb4.mono B3.out.size))
              clear hbe hb4 HS
              go_wp2_with fail
              go_ret
              exact ⟨rfl, B4.out⟩
end Go.Proofs.Yteiomafciignkaa
