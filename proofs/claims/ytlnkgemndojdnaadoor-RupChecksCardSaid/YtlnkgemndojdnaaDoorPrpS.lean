/- prop.Value; the document's Value. -/
import Derived.Test.YtlnkgemndojdnaaDoorPrpR
set_option linter.unusedVariables false
set_option linter.unusedSimpArgs false
namespace Go.Proofs.YtlnkgemndojdnaaDoor
set_option maxRecDepth 100000
open Go.RowKit

def anyV (vs : List Bool) (c : List Int) : Bool := c.any (litV vs)
def valB (cs : List (List Int)) (vs : List Bool) : Bool := cs.all (anyV vs)
set_option maxHeartbeats 1000000 in
theorem some_is (g : Nat) (a2 : Option Addr) (k2 cap2 : Nat) (vs : List Bool) (a : Option Addr) (k cap : Nat) (c : List Int) (w : World) (hk : c.length = k) (hkm : k ≤ 9223372036854775807) (hl : Nums w.heap.size w a c) (hk2 : vs.length = k2) (hkm2 : k2 ≤ 9223372036854775807) (hv : Bools w.heap.size w a2 vs) (hg : w.cell? ⟨g, 0, none⟩ = some (.slice a2 k2 cap2)) :
    Calls Tryd.prog 23 #[.slice a k cap, .func (.func 22) #[] #[.pointer (some ⟨g, 0, none⟩)]] w fun e w' => e = .returned (.bool (anyV vs c)) ∧ w = w' := by
  have HL := Lib.hid hl
  have HK := Lib.hid hk
  have HB := Lib.hid (fun l => is_any l g a2 k2 cap2 vs w hk2 hkm2 hv hg)
  have HYES : Hid (∀ j, j < k → litV vs (c.getD j 0) = true → anyV vs c = true) := fun j hj h => List.any_eq_true.2 ⟨_, getD_mem (by rw [hk]; exact hj), h⟩
  have HNO : Hid ((∀ j, j < k → litV vs (c.getD j 0) = false) → anyV vs c = false) := fun h => List.any_eq_false.2 fun x hx => by
    obtain ⟨i, hi, rfl⟩ := List.getElem_of_mem hx
    have := h i (by omega)
    rw [List.getD_eq_getElem?_getD, List.getElem?_eq_getElem hi, Option.getD_some] at this
    rw [this]; decide
  clear hl hk hg hv hk2
  generalize anyV vs c = r at HYES HNO
  go_enter Tryd.func23, Tryd.ntmps23
  go_wp2_with fail
  go_loop [9] (fun i => ∃ j : Nat, j ≤ k ∧ i = .int .i64 j ∧ Hid (∀ i, i < j → litV vs (c.getD i 0) = false)) (fun i => k - (intOf i).toNat)
  case atStart => exact ⟨0, Nat.zero_le _, rfl, fun i hi => absurd hi (Nat.not_lt_zero _)⟩
  case round =>
    obtain ⟨j, hj, rfl, hal⟩ := hrel
    by_cases hlt : j < k
    · obtain ⟨b, off, rfl, hblt, c1⟩ := HL.out j (by rw [HK.out]; exact hlt)
      have HC := Lib.hid (HB.out (c.getD j 0))
      have HY := Lib.hid (HYES.out j hlt)
      have HST : Hid (litV vs (c.getD j 0) = false → ∀ i, i < j + 1 → litV vs (c.getD i 0) = false) := fun h i hi => by
        by_cases e : i = j
        · subst e; exact h
        · exact hal.out i (by omega)
      generalize c.getD j 0 = l at c1 HC HY HST
      cases hb : litV vs l
      · have hs := Lib.hid (HST.out hb)
        rw [hb] at HC
        clear HST HY HYES HNO hb hal
        go_wp2_with (first | (go_at_call 22; refine HC.out.mono ?_; rintro e w' ⟨rfl, rfl⟩))
        go_round
        case rel => exact ⟨j + 1, by omega, by go_num, hs⟩
        case measure => simp [intOf]; omega
      · obtain rfl := HY.out hb
        rw [hb] at HC
        clear HST HY HYES HNO hb hal
        go_wp2_with (first | (go_at_call 22; refine HC.out.mono ?_; rintro e w' ⟨rfl, rfl⟩))
        go_ret
        exact ⟨rfl, rfl⟩
    · obtain rfl : j = k := by omega
      obtain rfl := HNO.out hal.out
      clear HYES HNO hal
      go_wp2_with fail
      go_ret
      exact ⟨rfl, rfl⟩
theorem valB_yes {cs : List (List Int)} {vs : List Bool} {j : Nat} (hj : j < cs.length) (h : anyV vs (cs.getD j []) = false) : valB cs vs = false := by
  cases e : valB cs vs
  · rfl
  · have := List.all_eq_true.1 e (cs.getD j []) (by rw [List.getD_eq_getElem?_getD, List.getElem?_eq_getElem hj]; exact List.getElem_mem _)
    rw [h] at this; cases this
theorem valB_no {cs : List (List Int)} {vs : List Bool} (h : ∀ j, j < cs.length → anyV vs (cs.getD j []) = true) : valB cs vs = true := List.all_eq_true.2 fun c hc => by
  obtain ⟨i, hi, rfl⟩ := List.getElem_of_mem hc
  have := h i hi
  rwa [List.getD_eq_getElem?_getD, List.getElem?_eq_getElem hi] at this
set_option maxHeartbeats 1000000 in
theorem pvalue_any (a : Option Addr) (m cap : Nat) (cs : List (List Int)) (a2 : Option Addr) (k2 cap2 : Nat) (vs : List Bool) (w : World) (hm : cs.length = m) (hmm : m ≤ 9223372036854775807) (hl : CLies w.heap.size w a cs) (hlen : ∀ j, j < m → (cs.getD j []).length ≤ 9223372036854775807) (hk2 : vs.length = k2) (hkm2 : k2 ≤ 9223372036854775807) (hv : Bools w.heap.size w a2 vs) :
    Calls Tryd.prog 12 #[.slice a m cap, .slice a2 k2 cap2] w fun e w' => e = .returned (.bool (valB cs vs)) ∧ Below w.heap.size w w' := by
  have hb : Below w.heap.size w (w.alloc (.cells #[.slice a2 k2 cap2] 31)) := (Below.refl _ w).alloc (Nat.le_refl _) _
  have hnw := heap_alloc_new w (.cells #[.slice a2 k2 cap2] 31)
  have hg : (w.alloc (.cells #[.slice a2 k2 cap2] 31)).cell? ⟨w.heap.size, 0, none⟩ = some (.slice a2 k2 cap2) := (cell_of_row _ _ _ _ _ _ hnw).trans rfl
  have HS := Lib.hid (fun j (hj : j < m) (ta : Option Addr) (tcap : Nat) (hn9 : Nums w.heap.size w ta (cs.getD j [])) => some_is w.heap.size a2 k2 cap2 vs ta (cs.getD j []).length tcap (cs.getD j []) (w.alloc (.cells #[.slice a2 k2 cap2] 31)) rfl (hlen j hj) ((hn9.below hb).mono hb.size) hk2 hkm2 ((hv.below hb).mono hb.size) hg)
  have HB := Lib.hid hb
  have HL := Lib.hid hl
  have HM := Lib.hid hm
  have HYES : Hid (∀ j, j < m → anyV vs (cs.getD j []) = false → valB cs vs = false) := fun j hj => valB_yes (by rw [hm]; exact hj)
  have HNO : Hid ((∀ j, j < m → anyV vs (cs.getD j []) = true) → valB cs vs = true) := fun h => valB_no (by rw [hm]; exact h)
  generalize valB cs vs = r at HYES HNO
  clear hl hm hk2 hv hlen hb hnw
  go_enter Tryd.func12, Tryd.ntmps12
  go_wp2_with fail
  go_loop [11] (fun i => ∃ j : Nat, j ≤ m ∧ i = .int .i64 j ∧ Hid (∀ q, q < j → anyV vs (cs.getD q []) = true)) (fun i => m - (intOf i).toNat)
  case atStart => exact ⟨0, Nat.zero_le _, rfl, fun q hq => absurd hq (Nat.not_lt_zero _)⟩
  case round =>
    obtain ⟨j, hj, rfl, hal⟩ := hrel
    by_cases hlt : j < m
    · obtain ⟨b, off, ta, tcap, rfl, hblt, c1, cn⟩ := HL.out j (by rw [HM.out]; exact hlt)
      have c1 := (HB.out.cell (p := ⟨b, off + j, none⟩) hblt).trans c1
      have HC := Lib.hid (HS.out j hlt ta tcap cn)
      have HY := Lib.hid (HYES.out j hlt)
      have HST : Hid (anyV vs (cs.getD j []) = true → ∀ q, q < j + 1 → anyV vs (cs.getD q []) = true) := fun h q hq => by
        by_cases e : q = j
        · subst e; exact h
        · exact hal.out q (by omega)
      clear cn hal HS HYES
      cases hbb : anyV vs (cs.getD j [])
      · obtain rfl := HY.out hbb
        rw [hbb] at HC
        clear HY HST HNO hbb
        generalize (cs.getD j []).length = len at c1 HC
        go_wp2_with fail
        refine HC.out.mono ?_
        rintro e w' ⟨rfl, rfl⟩
        go_wp2_with fail
        go_ret
        exact ⟨rfl, HB.out⟩
      · have HY2 := Lib.hid (HST.out hbb)
        rw [hbb] at HC
        clear HY HST HNO hbb
        generalize (cs.getD j []).length = len at c1 HC
        go_wp2_with fail
        refine HC.out.mono ?_
        rintro e w' ⟨rfl, rfl⟩
        go_wp2_with fail
        go_round
        case rel => exact ⟨j + 1, by omega, by go_num, HY2⟩
        case measure => simp [intOf]; omega
    · obtain rfl : j = m := by omega
      obtain rfl := HNO.out hal.out
      clear HYES HNO hal HS
      go_wp2_with fail
      go_ret
      exact ⟨rfl, HB.out⟩
set_option maxRecDepth 100000 in
set_option maxHeartbeats 4000000 in
theorem rvalue_any (a : Option Addr) (m cap : Nat) (cs : List (List Int)) (a2 : Option Addr) (k2 cap2 : Nat) (vs : List Bool) (w : World) (hm : cs.length = m) (hmm : m ≤ 9223372036854775807) (hl : CLies w.heap.size w a cs) (hlen : ∀ j, j < m → (cs.getD j []).length ≤ 9223372036854775807) (hk2 : vs.length = k2) (hkm2 : k2 ≤ 9223372036854775807) (hv : Bools w.heap.size w a2 vs) :
    Calls Tryd.prog 13 #[.slice a m cap, .slice a2 k2 cap2] w fun e w' => e = .returned (.bool (valB cs vs)) ∧ w = w' := by
  have HL := Lib.hid hl
  have HM := Lib.hid hm
  have HV := Lib.hid hv
  have HLEN := Lib.hid hlen
  have HYES : Hid (∀ j, j < m → anyV vs (cs.getD j []) = false → valB cs vs = false) := fun j hj => valB_yes (by rw [hm]; exact hj)
  have HNO : Hid ((∀ j, j < m → anyV vs (cs.getD j []) = true) → valB cs vs = true) := fun h => valB_no (by rw [hm]; exact h)
  generalize valB cs vs = r at HYES HNO
  have hw1 : IntKind.i64.wrap (-(k2 : Int)) = -(k2 : Int) := IntWalk.i64_in _ (by omega)
  clear hl hm hv hlen
  go_enter Tryd.func13, Tryd.ntmps13
  go_wp2_with fail
  go_loop [5] (fun i => ∃ j : Nat, j ≤ m ∧ i = .int .i64 j ∧ Hid (∀ q, q < j → anyV vs (cs.getD q []) = true)) (fun i => m - (intOf i).toNat)
  case atStart => exact ⟨0, Nat.zero_le _, rfl, fun q hq => absurd hq (Nat.not_lt_zero _)⟩
  case round =>
    obtain ⟨j, hj, rfl, hal⟩ := hrel
    by_cases hlt : j < m
    · obtain ⟨b, off, ta, tcap, rfl, hblt, c1, cn⟩ := HL.out j (by rw [HM.out]; exact hlt)
      have hlen := HLEN.out j hlt
      have HY := Lib.hid (HYES.out j hlt)
      have HST : Hid (anyV vs (cs.getD j []) = true → ∀ q, q < j + 1 → anyV vs (cs.getD q []) = true) := fun h q hq => by
        by_cases e : q = j
        · subst e; exact h
        · exact hal.out q (by omega)
      have HCN := Lib.hid cn
      clear cn hal HYES
      generalize cs.getD j [] = c at c1 hlen HY HST HCN
      go_wp2_with fail
      go_loop [6, 7] (fun s i => ∃ q : Nat, q ≤ c.length ∧ i = .int .i64 q ∧ s = .bool (anyV vs (c.take q))) (fun _ i => c.length - (intOf i).toNat)
      case atStart => exact ⟨0, Nat.zero_le _, rfl, rfl⟩
      case round =>
        obtain ⟨q, hq, rfl, rfl⟩ := hrel
        by_cases hql : q < c.length
        · obtain ⟨b3, off3, rfl, hb3, n1⟩ := HCN.out q hql
          have HT : Hid (anyV vs (c.take (q + 1)) = (anyV vs (c.take q) || litV vs (c.getD q 0))) := by
            show _ = _
            unfold anyV
            rw [List.take_succ_eq_append_getElem hql, List.any_append, List.any_cons, List.any_nil, Bool.or_false, List.getD_eq_getElem?_getD, List.getElem?_eq_getElem hql]
            rfl
          have hway := lit_way vs (c.getD q 0)
          generalize c.getD q 0 = l at n1 HT hway
          generalize litV vs l = x at HT hway
          generalize anyV vs (c.take q) = f at HT
          clear HY HST HNO
          cases hway with
          | zero h0 hr =>
            subst hr h0
            go_wp2_with fail
            go_round
            case rel => exact ⟨q + 1, by omega, by go_num, by rw [HT.out]; simp⟩
            case measure => simp [intOf]; omega
          | far h1 h2 hr =>
            subst hr; rw [hk2] at h2
            go_wp2_with fail
            go_round
            case rel => exact ⟨q + 1, by omega, by go_num, by rw [HT.out]; simp⟩
            case measure => simp [intOf]; omega
          | pos j5 b5 h1 h2 h3 hr =>
            obtain ⟨b4, off4, rfl, hb4, c4⟩ := HV.out j5 h2
            rw [h3] at c4
            subst hr h1
            rw [hk2] at h2
            have hp : 0 < (j5 : Int) + 1 := by omega
            have hle : (j5 : Int) + 1 ≤ (k2 : Int) := by omega
            have hjk : (j5 : Int) < (k2 : Int) := by omega
            clear h3
            cases x
            · go_wp2_with fail
              go_round
              case rel => exact ⟨q + 1, by omega, by go_num, by rw [HT.out]; simp⟩
              case measure => simp [intOf]; omega
            · go_wp2_with fail
              go_round
              case rel => exact ⟨q + 1, by omega, by go_num, by rw [HT.out]; simp⟩
              case measure => simp [intOf]; omega
          | nfar h1 h2 hr =>
            subst hr; rw [hk2] at h2
            go_wp2_with fail
            go_round
            case rel => exact ⟨q + 1, by omega, by go_num, by rw [HT.out]; simp⟩
            case measure => simp [intOf]; omega
          | neg j5 b5 h1 h2 h3 hr =>
            obtain ⟨b4, off4, rfl, hb4, c4⟩ := HV.out j5 h2
            rw [h3] at c4
            subst h1
            rw [hk2] at h2
            have hp : -((j5 : Int) + 1) < 0 := by omega
            have hle : -(k2 : Int) ≤ -((j5 : Int) + 1) := by omega
            have hjk : (j5 : Int) < (k2 : Int) := by omega
            clear h3
            cases b5
            · go_wp2_with fail
              go_round
              case rel => exact ⟨q + 1, by omega, by go_num, by rw [HT.out, hr]; simp⟩
              case measure => simp [intOf]; omega
            · go_wp2_with fail
              go_round
              case rel => exact ⟨q + 1, by omega, by go_num, by rw [HT.out, hr]; simp⟩
              case measure => simp [intOf]; omega
        · obtain rfl : q = c.length := by omega
          rw [List.take_length]
          cases hbb : anyV vs c
          · obtain rfl := HY.out hbb
            clear HY HST HNO hbb
            go_wp2_with fail
            go_ret
            exact ⟨rfl, rfl⟩
          · have HY2 := Lib.hid (HST.out hbb)
            clear HY HST HNO hbb
            go_wp2_with fail
            go_round
            case rel => exact ⟨j + 1, by omega, by go_num, HY2⟩
            case measure => simp [intOf]; omega
    · obtain rfl : j = m := by omega
      obtain rfl := HNO.out hal.out
      clear HYES HNO hal
      go_wp2_with fail
      go_ret
      exact ⟨rfl, rfl⟩
end Go.Proofs.YtlnkgemndojdnaaDoor
