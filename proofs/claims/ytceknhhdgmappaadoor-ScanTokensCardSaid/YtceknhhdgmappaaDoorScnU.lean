/- Whether two lists of tokens are alike: the document's. -/
import Derived.Test.YtceknhhdgmappaaDoorScnQ
import Derived.Test.YtceknhhdgmappaaDoorScnTa
set_option linter.unusedVariables false
set_option linter.unusedSimpArgs false
namespace Go.Proofs.YtceknhhdgmappaaDoor
set_option maxRecDepth 100000
open Go.RowKit

set_option maxHeartbeats 4000000 in
theorem rsame_any (a b : Option Addr) (m ca cb : Nat) (ts : List Tok) (w : World) (hm : ts.length = m) (hmm : m ≤ 65536) (ha : TLies w.heap.size w a ts) (hb : TLies w.heap.size w b ts) :
    Calls Tryd.prog 9 #[.slice a m ca, .slice b m cb, .bool true] w fun e w' => e = .returned (.bool true) ∧ Below w.heap.size w w' := by
  have HA := Lib.hid ha
  have HB := Lib.hid hb
  have HM := Lib.hid hm
  have hnn : ((m : Int) != (m : Int)) = false := by simp
  clear ha hb hm
  go_enter Tryd.func9, Tryd.ntmps9
  go_wp2
  go_loopw [7] (fun i wr => ∃ k : Nat, k ≤ m ∧ i = .int .i64 k ∧ Hid (∃ q, wr = w.drewN q)) (fun i _ => m - (intOf i).toNat)
  case atStart => exact ⟨0, Nat.zero_le _, rfl, 0, rfl⟩
  case round =>
    obtain ⟨k, hk, rfl, hw⟩ := hrel
    obtain ⟨q, hw⟩ := hw.out
    subst hw
    by_cases hlt : k < m
    · have hlti : (k : Int) < (m : Int) := by omega
      obtain ⟨b1, o1, rfl, l1, a1, a2, a3⟩ := HA.out k (by rw [HM.out]; exact hlt)
      obtain ⟨b2, o2, rfl, l2, c1, c2, c3⟩ := HB.out k (by rw [HM.out]; exact hlt)
      generalize (ts.getD k tok0).kind = x1 at a1 c1
      generalize ((ts.getD k tok0).at' : Int) = x2 at a2 c2
      generalize (ts.getD k tok0).text = x3 at a3 c3
      have e1 : (x1 != x1) = false := by simp
      have e2 : (x2 != x2) = false := by simp
      have e3 : (x3.toList == x3.toList) = true := by simp
      have e4 : (!(x3.toList == x3.toList)) = false := by simp
      go_wp2_with fail
      go_quiet (fail)
      go_wp2
      go_roundw
      case rel => exact ⟨k + 1, by omega, by go_num, ⟨q + nq, rfl⟩⟩
      case measure => simp [intOf]; omega
    · go_wp2
      go_ret
      exact ⟨rfl, by
        have : ∀ n, Below w.heap.size w (w.drewN n) := fun n => by
          induction n with
          | zero => exact Below.refl _ _
          | succ n ih => exact ih.drew
        exact this q⟩
end Go.Proofs.YtceknhhdgmappaaDoor
