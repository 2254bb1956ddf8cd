/- The document's bytes of a clause, of steps. -/
import Derived.Test.YtgaipfkblfommaaPakJ
set_option linter.unusedVariables false
set_option linter.unusedSimpArgs false
namespace Go.Proofs.Ytgaipfkblfommaa
set_option maxRecDepth 100000
open Go.RowKit

theorem pre_le {T : Type} (f : T → List UInt8) (xs : List T) (k : Nat) : (num xs.length ++ (xs.take k).flatMap f).length ≤ (encList f xs).length := by
  unfold encList
  have := flat_rest f xs k
  rw [← this]
  simp only [List.length_append]
  omega
theorem pre_snoc {T : Type} (f : T → List UInt8) (xs : List T) (k : Nat) (h : k < xs.length) : num xs.length ++ (xs.take (k + 1)).flatMap f = num xs.length ++ (xs.take k).flatMap f ++ f xs[k] := by
  rw [flat_snoc f xs k h, List.append_assoc]
theorem pre_all {T : Type} (f : T → List UInt8) (xs : List T) : num xs.length ++ (xs.take xs.length).flatMap f = encList f xs := by
  rw [List.take_length]; rfl
set_option maxHeartbeats 4000000 in
theorem rclause_any (a : Option Addr) (n cap : Nat) (xs : List Int) (w : World) (hn : xs.length = n) (hl : Sits intSh (Lo w.heap.size) w a xs) (hsz : (encClause xs).length ≤ 140000000000000) :
    Calls Try.prog 35 #[.slice a n cap] w (BEnd (encClause xs) w) := by
  have HL := Lib.hid hl
  have HN := Lib.hid hn
  have HSZ := Lib.hid hsz
  have hnm : n ≤ 9223372036854775807 := by rw [← hn]; exact hl.1
  have HNU := Lib.hid (rnumber_any (n : Int) w ⟨by omega, by omega⟩)
  clear hl hn hsz
  go_enter Try.func35, Try.ntmps35
  go_wp2_with fail
  refine HNU.out.mono ?_
  rintro e w1 ⟨v1, rfl, ho1, hb1⟩
  have R1 : Hid (BRow w.heap.size (num xs.length ++ (xs.take 0).flatMap num) v1 w1) := by show BRow _ _ _ _; rw [HN.out]; simpa using ho1
  have B1 := Lib.hid hb1
  clear ho1 hb1 HNU
  go_wp2_with fail
  go_loopw [3, 4] (fun o i wr => ∃ k : Nat, i = .int .i64 k ∧ k ≤ n ∧ Hid (BRow w.heap.size (num xs.length ++ (xs.take k).flatMap num) o wr) ∧ Hid (Below w.heap.size w wr)) (fun _ i _ => n - (intOf i).toNat)
  case atStart => exact ⟨0, rfl, Nat.zero_le _, R1, B1⟩
  case round =>
    clear R1 B1
    obtain ⟨k, rfl, hk, hrow, hb⟩ := hrel
    by_cases hlt : k < n
    · have hlti : (k : Int) < (n : Int) := by omega
      have hkx : k < xs.length := by rw [HN.out]; exact hlt
      obtain ⟨b, off, cs, rfl, hbl, hc, hre⟩ := (HL.out.up hb.out).2 k hkx
      obtain ⟨rfl, hin⟩ := hre
      have c0 : wr.cell? ⟨b, off + k, none⟩ = some (.int .i64 xs[k]) := by simpa [intSh] using hc 0 _ rfl
      have HSN := Lib.hid (pre_snoc num xs k hkx)
      have HLE : Hid ((num xs.length ++ (xs.take (k + 1)).flatMap num).length ≤ 140000000000000) := Nat.le_trans (pre_le num xs (k + 1)) HSZ.out
      clear hc
      generalize xs[k] = x at *
      have HC := Lib.hid (rnumber_any x wr hin)
      go_wp2_with fail
      refine HC.out.mono ?_
      rintro e w5 ⟨v5, rfl, ho5, hb5⟩
      obtain ⟨v6, w6, hr6, ho6, hb6⟩ := run_cat (hrow.out.below hb5) (BRow.slot ho5 (by have := HLE.out; rw [HSN.out, List.length_append] at this; omega)) (Nat.le_trans hb.out.size hb5.size) (by have := HLE.out; rwa [HSN.out, List.length_append] at this)
      have R6 : Hid (BRow w.heap.size (num xs.length ++ (xs.take (k + 1)).flatMap num) v6 w6) := by show BRow _ _ _ _; rw [HSN.out]; exact ho6
      have B6 := Lib.hid (hb.out.trans ((hb5.mono hb.out.size).trans hb6))
      obtain ⟨a5, cap5, rfl⟩ := ho5.slice
      clear ho5 hb5 ho6 hb6 hrow hb HC HSN HLE
      go_wp2_with (at_builtin; refine Lib.wpList_append_run _ rfl _ _ _ _ rfl _ _ rfl rfl _ _ (hr6 _) ?_)
      go_roundw
      case rel => exact ⟨k + 1, by go_num, by omega, R6, B6⟩
      case measure => simp [intOf]; omega
    · have hlti : ¬ (k : Int) < (n : Int) := by omega
      obtain rfl : k = n := by omega
      have HE : Hid (BEnd (encClause xs) w (.returned u3) wr) := ⟨_, rfl, by have := hrow.out; rw [← HN.out, pre_all] at this; exact this, hb.out⟩
      clear hrow hb
      go_wp2_with fail
      go_ret
      exact HE.out
end Go.Proofs.Ytgaipfkblfommaa
