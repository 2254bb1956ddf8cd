/- Sound literals; prop.Check. -/
import Derived.Test.YtlnkgemndojdnaaDoorPrpK
set_option linter.unusedVariables false
set_option linter.unusedSimpArgs false
namespace Go.Proofs.YtlnkgemndojdnaaDoor
set_option maxRecDepth 100000
open Go.RowKit

def litB (n : Int) (l : Int) : Bool := decide (l ≠ 0 ∧ -n ≤ l ∧ l ≤ n)
def litsB (n : Int) (c : List Int) : Bool := c.all (litB n)
theorem litsB_iff {n : Nat} {c : List Int} : litsB n c = true ↔ ∀ x, x ∈ c → inR n x := by
  unfold litsB litB inR
  simp
theorem bad_any (l n : Int) (g : Nat) (w : World) (hn : 0 ≤ n ∧ n ≤ 8192) (hg : w.cell? ⟨g, 0, none⟩ = some (.int .i64 n)) :
    Calls Tryd.prog 38 #[.int .i64 l, .pointer (some ⟨g, 0, none⟩)] w fun e w' => e = .returned (.bool (!litB n l)) ∧ w = w' := by
  have hw : IntKind.i64.wrap (-n) = -n := IntWalk.i64_in _ (by omega)
  by_cases h0 : l = 0
  · have e : litB n l = false := by unfold litB; simp [h0]
    rw [e]
    subst h0
    go_enter Tryd.func38, Tryd.ntmps38
    go_wp2_with fail
    go_ret
    exact ⟨rfl, rfl⟩
  · have h00 : (l == 0) = false := by simp [h0]
    by_cases h1 : l < -n
    · have e : litB n l = false := by unfold litB; simp; omega
      rw [e]
      go_enter Tryd.func38, Tryd.ntmps38
      go_wp2_with fail
      go_ret
      exact ⟨rfl, rfl⟩
    · by_cases h2 : n < l
      · have e : litB n l = false := by unfold litB; simp; omega
        rw [e]
        go_enter Tryd.func38, Tryd.ntmps38
        go_wp2_with fail
        go_ret
        exact ⟨rfl, rfl⟩
      · have e : litB n l = true := by unfold litB; simp; omega
        rw [e]
        go_enter Tryd.func38, Tryd.ntmps38
        go_wp2_with fail
        go_ret
        exact ⟨rfl, rfl⟩
theorem getD_mem {c : List Int} {j : Nat} (h : j < c.length) : c.getD j 0 ∈ c := by rw [List.getD_eq_getElem?_getD, List.getElem?_eq_getElem h]; exact List.getElem_mem h
set_option maxHeartbeats 1000000 in
theorem some_bad (n : Int) (hn : 0 ≤ n ∧ n ≤ 8192) (g : Nat) (a : Option Addr) (k cap : Nat) (c : List Int) (w : World) (hk : c.length = k) (hkm : k ≤ 9223372036854775807) (hl : Nums w.heap.size w a c) (hg : w.cell? ⟨g, 0, none⟩ = some (.int .i64 n)) :
    Calls Tryd.prog 23 #[.slice a k cap, .func (.func 38) #[] #[.pointer (some ⟨g, 0, none⟩)]] w fun e w' => e = .returned (.bool (!litsB n c)) ∧ w = w' := by
  have HL := Lib.hid hl
  have HK := Lib.hid hk
  have HB := Lib.hid (fun l => bad_any l n g w hn hg)
  have HYES : Hid (∀ j, j < k → litB n (c.getD j 0) = false → (!litsB n c) = true) := fun j hj h => by
    have : litsB n c = false := by
      cases e : litsB n c
      · rfl
      · have := List.all_eq_true.1 e _ (getD_mem (by rw [hk]; exact hj)); rw [h] at this; cases this
    rw [this]; rfl
  have HNO : Hid ((∀ j, j < k → litB n (c.getD j 0) = true) → (!litsB n c) = false) := fun h => by
    have : litsB n c = true := List.all_eq_true.2 fun x hx => by
      obtain ⟨i, hi, rfl⟩ := List.getElem_of_mem hx
      have := h i (by omega)
      rwa [List.getD_eq_getElem?_getD, List.getElem?_eq_getElem hi] at this
    rw [this]; rfl
  clear hl hk hg
  generalize (!litsB n c) = r at HYES HNO
  go_enter Tryd.func23, Tryd.ntmps23
  go_wp2_with fail
  go_loop [9] (fun i => ∃ j : Nat, j ≤ k ∧ i = .int .i64 j ∧ Hid (∀ i, i < j → litB n (c.getD i 0) = true)) (fun i => k - (intOf i).toNat)
  case atStart => exact ⟨0, Nat.zero_le _, rfl, fun i hi => absurd hi (Nat.not_lt_zero _)⟩
  case round =>
    obtain ⟨j, hj, rfl, hal⟩ := hrel
    by_cases hlt : j < k
    · obtain ⟨b, off, rfl, hblt, c1⟩ := HL.out j (by rw [HK.out]; exact hlt)
      have HC := Lib.hid (HB.out (c.getD j 0))
      have HY := Lib.hid (HYES.out j hlt)
      have HST : Hid (litB n (c.getD j 0) = true → ∀ i, i < j + 1 → litB n (c.getD i 0) = true) := fun h i hi => by
        by_cases e : i = j
        · subst e; exact h
        · exact hal.out i (by omega)
      generalize c.getD j 0 = l at c1 HC HY HST
      cases hb : litB n l
      · have hr := HY.out hb
        rw [hb] at HC
        clear HST HY HYES HNO
        go_wp2_with (first | (go_at_call 38; refine HC.out.mono ?_; rintro e w' ⟨rfl, rfl⟩))
        go_ret
        exact ⟨by rw [hr]; rfl, rfl⟩
      · have hs := Lib.hid (HST.out hb)
        rw [hb] at HC
        clear HST HY HYES HNO
        go_wp2_with (first | (go_at_call 38; refine HC.out.mono ?_; rintro e w' ⟨rfl, rfl⟩))
        go_round
        case rel => exact ⟨j + 1, by omega, by go_num, hs⟩
        case measure => simp [intOf]; omega
    · obtain rfl : j = k := by omega
      have hr := HNO.out hal.out
      clear HYES HNO hal
      go_wp2_with fail
      go_ret
      exact ⟨rfl, rfl⟩
theorem sound_any (n : Int) (hn : 0 ≤ n ∧ n ≤ 8192) (a : Option Addr) (k cap : Nat) (c : List Int) (w : World) (hk : c.length = k) (hkm : k ≤ 9223372036854775807) (hl : Nums w.heap.size w a c) :
    Calls Tryd.prog 26 #[.int .i64 n, .slice a k cap] w fun e w' => e = .returned (.bool (litsB n c)) ∧ Below w.heap.size w w' := by
  have hb : Below w.heap.size w (w.alloc (.cells #[.int .i64 n] 3)) := (Below.refl _ w).alloc (Nat.le_refl _) _
  have hnw := heap_alloc_new w (.cells #[.int .i64 n] 3)
  have HS := Lib.hid (some_bad n hn w.heap.size a k cap c (w.alloc (.cells #[.int .i64 n] 3)) hk hkm ((hl.below hb).mono hb.size) ((cell_of_row _ _ _ _ _ _ hnw).trans rfl))
  have HB := Lib.hid hb
  clear hl hk hb hnw
  go_enter Tryd.func26, Tryd.ntmps26
  go_wp2_with fail
  refine HS.out.mono ?_
  rintro e w' ⟨rfl, rfl⟩
  go_wp2_with fail
  go_ret
  exact ⟨by simp, HB.out⟩
end Go.Proofs.YtlnkgemndojdnaaDoor
