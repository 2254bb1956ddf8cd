/- heap.Check; the document's Below, Stands, Check. -/
import Derived.Test.YteiomafciignkaaHepD
import Derived.BigQuiet
import Derived.Deep.QuietTactic
set_option linter.unusedVariables false
set_option linter.unusedSimpArgs false
namespace Go.Proofs.Yteiomafciignkaa
set_option maxRecDepth 100000
open Go.RowKit

theorem below_drewN2 {B : Nat} {a w : World} (h : Below B a w) : ∀ n, Below B a (w.drewN n) := fun n => ⟨h.os, h.tape, h.output, h.size, h.block⟩
theorem rbelow_any (a : Int) (f : ByteArray) (b : Int) (g : ByteArray) (w : World) : Calls Try.prog 25 #[.int .i64 a, .string f, .int .i64 b, .string g] w fun e w' => e = .returned (.bool (kl (a, f.toList) (b, g.toList))) ∧ w' = w := by
  by_cases h1 : a < b
  · have e : kl (a, f.toList) (b, g.toList) = true := kl_iff.2 (.inl h1)
    rw [e]
    clear e
    go_enter Try.func25, Try.ntmps25
    go_wp2_with fail
    go_ret
    exact ⟨rfl, rfl⟩
  · by_cases h2 : a = b
    · subst h2
      have e : kl (a, f.toList) (a, g.toList) = Op.bytesLess f.toList g.toList := by unfold kl; simp
      rw [e]
      clear e
      go_enter Try.func25, Try.ntmps25
      go_wp2_with fail
      go_ret
      exact ⟨rfl, rfl⟩
    · have e : kl (a, f.toList) (b, g.toList) = false := by unfold kl; simp [h1, h2]
      have h3 : (a == b) = false := by simp [h2]
      rw [e]
      clear e
      go_enter Try.func25, Try.ntmps25
      go_wp2_with fail
      go_ret
      exact ⟨rfl, rfl⟩
def BoolEnd (p : Prop) (w : World) (e : Ending) (w' : World) : Prop := ∃ b : Bool, e = .returned (.bool b) ∧ (b = true ↔ p) ∧ Below w.heap.size w w'
set_option maxHeartbeats 2000000 in
theorem stands_any (hs : List HC) (ad : Option Addr) (n cap : Nat) (w : World) (hn : hs.length = n) (hnm : n ≤ 9223372036854775807) (hl : HLies w.heap.size w ad hs) :
    Calls Try.prog 11 #[.slice ad n cap] w (BoolEnd (Stand hs) w) := by
  have HB := Lib.hid (fun a f b g W => rbelow_any a f b g W)
  have HL := Lib.hid hl
  have HN := Lib.hid hn
  clear hl hn
  go_enter Try.func11, Try.ntmps11
  go_wp2_with fail
  go_loopw [3] (fun i wr => ∃ k : Nat, i = .int .i64 ((k : Int) + 1) ∧ k ≤ n ∧ Hid (∀ j, j < k → j + 1 < n → kl (hkey (hs.getD j hc0)) (hkey (hs.getD (j + 1) hc0)) = true) ∧ Hid (Below w.heap.size w wr)) (fun i _ => n + 1 - (intOf i).toNat)
  case atStart => exact ⟨0, rfl, Nat.zero_le _, fun j hj => absurd hj (Nat.not_lt_zero j), Below.refl _ _⟩
  case round =>
    obtain ⟨k, rfl, hk, hok, hb⟩ := hrel
    by_cases hlt : k + 1 < n
    · have hlti : (k : Int) + 1 < (n : Int) := by omega
      obtain ⟨b3, off3, rfl, hb3, c1, c2, c3⟩ := HL.out k (by rw [HN.out]; omega)
      obtain ⟨b4, off4, he4, hb4, d1, d2, d3⟩ := HL.out (k + 1) (by rw [HN.out]; omega)
      obtain ⟨rfl, rfl⟩ : b3 = b4 ∧ off3 = off4 := by injection he4 with e; injection e with e1 e2 e3; exact ⟨e1, e2⟩
      have c1 := (hb.out.cell (p := ⟨b3, _, none⟩) hb3).trans c1
      have c2 := (hb.out.cell (p := ⟨b3, _, none⟩) hb3).trans c2
      have d1 := (hb.out.cell (p := ⟨b3, _, none⟩) hb3).trans d1
      have d2 := (hb.out.cell (p := ⟨b3, _, none⟩) hb3).trans d2
      have hw1 : IntKind.i64.wrap ((k : Int) + 1 - 1) = (k : Int) := by rw [show (k : Int) + 1 - 1 = (k : Int) by omega]; exact IntWalk.i64_in _ (by omega)
      have hkn : (k : Int) < (n : Int) := by omega
      have HOK : Hid (kl (hkey (hs.getD k hc0)) (hkey (hs.getD (k + 1) hc0)) = true → ∀ j, j < k + 1 → j + 1 < n → kl (hkey (hs.getD j hc0)) (hkey (hs.getD (j + 1) hc0)) = true) := fun h j hj hjn => by
        by_cases e : j = k
        · subst e; exact h
        · exact hok.out j (by omega) hjn
      have HNO : Hid (¬ kl (hkey (hs.getD k hc0)) (hkey (hs.getD (k + 1) hc0)) = true → ¬ Stand hs) := fun h hst => h (hst k (by rw [HN.out]; exact hlt))
      generalize hs.getD k hc0 = x at c1 c2 HOK HNO
      generalize hs.getD (k + 1) hc0 = y at d1 d2 HOK HNO
      have HC := Lib.hid (HB.out x.a x.f y.a y.f)
      have HC : Hid (∀ W, Calls Try.prog 25 #[.int .i64 x.a, .string x.f, .int .i64 y.a, .string y.f] W fun e w' => e = .returned (.bool (kl (hkey x) (hkey y))) ∧ w' = W) := HC.out
      generalize kl (hkey x) (hkey y) = z at HC HOK HNO
      clear hok c3 d3 he4
      go_wp2_with fail
      go_quiet ((go_at_call 25; exact Calls.quiet_of_same (HC.out _)))
      cases z with
      | false =>
        have HE : Hid (∀ W, Below w.heap.size w W → BoolEnd (Stand hs) w (.returned (.bool false)) W) := fun W hW => ⟨false, rfl, ⟨fun h => (by cases h), fun h => absurd h (HNO.out (by decide))⟩, hW⟩
        go_wp2_with fail
        go_ret
        exact HE.out _ (below_drewN2 hb.out _)
      | true =>
        have HK := Lib.hid (HOK.out rfl)
        go_wp2_with fail
        go_roundw
        case rel => exact ⟨k + 1, by go_num, by omega, HK, below_drewN2 hb.out _⟩
        case measure => simp [intOf]; omega
    · have hlti : ¬ (k : Int) + 1 < (n : Int) := by omega
      have HE : Hid (∀ W, Below w.heap.size w W → BoolEnd (Stand hs) w (.returned (.bool true)) W) := fun W hW => ⟨true, rfl, ⟨fun _ i hi => hok.out i (by rw [HN.out] at hi; omega) (by rw [HN.out] at hi; exact hi), fun _ => rfl⟩, hW⟩
      go_wp2_with fail
      go_ret
      exact HE.out _ hb.out
end Go.Proofs.Yteiomafciignkaa
