/- The document's SameShares. -/
import Derived.Test.YteiomafciignkaaHepJa
set_option linter.unusedVariables false
set_option linter.unusedSimpArgs false
namespace Go.Proofs.Yteiomafciignkaa
set_option maxRecDepth 100000
open Go.RowKit

theorem Try.neShare (x y : HC) (w : World) : (binOp .neq 44 (.agg #[.int .i64 x.a, .string x.f, .int .i64 x.v]) (.agg #[.int .i64 y.a, .string y.f, .int .i64 y.v])).run Try.prog w = .ok (.bool (!(decide (hkey x = hkey y) && decide (x.v = y.v)))) w := by
  simp [go_sem, hkey]
  by_cases h1 : x.a = y.a <;> by_cases h2 : x.f.toList = y.f.toList <;> by_cases h3 : x.v = y.v <;> simp [h1, h2, h3]
set_option maxHeartbeats 2000000 in
theorem sames_any (xs ys : List HC) (ad : Option Addr) (n cap : Nat) (ad2 : Option Addr) (n2 cap2 : Nat) (w : World) (hn : xs.length = n) (hn2 : ys.length = n2) (hnm : n ≤ 9223372036854775807) (hnm2 : n2 ≤ 9223372036854775807) (hl : HLies w.heap.size w ad xs) (hl2 : HLies w.heap.size w ad2 ys) :
    Calls Try.prog 21 #[.slice ad n cap, .slice ad2 n2 cap2] w (BoolEnd (xs = ys) w) := by
  have HL := Lib.hid hl
  have HL2 := Lib.hid hl2
  have HN := Lib.hid hn
  have HN2 := Lib.hid hn2
  clear hl hn hl2 hn2
  by_cases hnn : n = n2
  · subst hnn
    have hnb : ((n : Int) != (n : Int)) = false := by simp
    go_enter Try.func21, Try.ntmps21
    go_wp2_with fail
    go_loopw [5] (fun i wr => ∃ k : Nat, i = .int .i64 k ∧ k ≤ n ∧ Hid (∀ j, j < k → xs.getD j hc0 = ys.getD j hc0) ∧ Hid (Below w.heap.size w wr)) (fun i _ => n - (intOf i).toNat)
    case atStart => exact ⟨0, rfl, Nat.zero_le _, fun j hj => absurd hj (Nat.not_lt_zero j), Below.refl _ _⟩
    case round =>
      obtain ⟨k, rfl, hk, hok, hb⟩ := hrel
      by_cases hlt : k < n
      · have hlti : (k : Int) < (n : Int) := by omega
        obtain ⟨b3, off3, rfl, hb3, c1, c2, c3⟩ := HL.out k (by rw [HN.out]; omega)
        obtain ⟨b4, off4, rfl, hb4, d1, d2, d3⟩ := HL2.out k (by rw [HN2.out]; omega)
        have c1 := (hb.out.cell (p := ⟨b3, _, none⟩) hb3).trans c1
        have c2 := (hb.out.cell (p := ⟨b3, _, none⟩) hb3).trans c2
        have c3 := (hb.out.cell (p := ⟨b3, _, none⟩) hb3).trans c3
        have d1 := (hb.out.cell (p := ⟨b4, _, none⟩) hb4).trans d1
        have d2 := (hb.out.cell (p := ⟨b4, _, none⟩) hb4).trans d2
        have d3 := (hb.out.cell (p := ⟨b4, _, none⟩) hb4).trans d3
        have HOK : Hid (xs.getD k hc0 = ys.getD k hc0 → ∀ j, j < k + 1 → xs.getD j hc0 = ys.getD j hc0) := fun h j hj => by
          by_cases e : j = k
          · subst e; exact h
          · exact hok.out j (by omega)
        have HNO : Hid (xs.getD k hc0 ≠ ys.getD k hc0 → xs ≠ ys) := fun h e => h (by rw [e])
        have hne := fun W => Try.neShare (xs.getD k hc0) (ys.getD k hc0) W
        have HEQ : Hid ((decide (hkey (xs.getD k hc0) = hkey (ys.getD k hc0)) && decide ((xs.getD k hc0).v = (ys.getD k hc0).v)) = true ↔ xs.getD k hc0 = ys.getD k hc0) := by
          show _ ↔ _
          simp only [Bool.and_eq_true, decide_eq_true_eq]
          exact ⟨fun ⟨h1, h2⟩ => HC.ext' h1 h2, fun h => by rw [h]; exact ⟨rfl, rfl⟩⟩
        clear hok
        generalize xs.getD k hc0 = x at c1 c2 c3 HOK HNO hne HEQ
        generalize ys.getD k hc0 = y at d1 d2 d3 HOK HNO hne HEQ
        generalize (decide (hkey x = hkey y) && decide (x.v = y.v)) = z at hne HEQ
        obtain ⟨xa, xf, xv⟩ := x
        obtain ⟨ya, yf, yv⟩ := y
        simp only at c1 c2 c3 d1 d2 d3 hne
        cases z with
        | true =>
          have HK := Lib.hid (HOK.out (HEQ.out.1 rfl))
          have hne : ∀ W, (binOp .neq 44 (.agg #[.int .i64 xa, .string xf, .int .i64 xv]) (.agg #[.int .i64 ya, .string yf, .int .i64 yv])).run Try.prog W = .ok (.bool false) W := hne
          clear HOK HNO HEQ
          go_wp2_with fail
          go_quiet (fail)
          go_wp2_with fail
          go_roundw
          case rel => exact ⟨k + 1, by go_num, by omega, HK, below_drewN2 hb.out _⟩
          case measure => simp [intOf]; omega
        | false =>
          have HK := Lib.hid (HNO.out (fun h => by have := HEQ.out.2 h; cases this))
          have HE : Hid (∀ W, Below w.heap.size w W → BoolEnd (xs = ys) w (.returned (.bool false)) W) := fun W hW => ⟨false, rfl, ⟨fun h => (by cases h), fun h => absurd h HK.out⟩, hW⟩
          have hne : ∀ W, (binOp .neq 44 (.agg #[.int .i64 xa, .string xf, .int .i64 xv]) (.agg #[.int .i64 ya, .string yf, .int .i64 yv])).run Try.prog W = .ok (.bool true) W := hne
          clear HOK HNO HEQ HK
          go_wp2_with fail
          go_quiet (fail)
          go_wp2_with fail
          go_ret
          exact HE.out _ (below_drewN2 hb.out _)
      · have hlti : ¬ (k : Int) < (n : Int) := by omega
        have HE : Hid (∀ W, Below w.heap.size w W → BoolEnd (xs = ys) w (.returned (.bool true)) W) := fun W hW => ⟨true, rfl, ⟨fun _ => by
          apply List.ext_getElem (by rw [HN.out, HN2.out])
          intro i h1 h2
          have := hok.out i (by rw [HN.out] at h1; omega)
          simpa [List.getD_eq_getElem?_getD, h1, h2] using this, fun _ => rfl⟩, hW⟩
        go_wp2_with fail
        go_ret
        exact HE.out _ hb.out
  · have hnb : ((n : Int) != (n2 : Int)) = true := by simp; omega
    have HE : Hid (BoolEnd (xs = ys) w (.returned (.bool false)) w) := ⟨false, rfl, ⟨fun h => (by cases h), fun h => absurd (by rw [← HN.out, ← HN2.out, h]) hnn⟩, Below.refl _ _⟩
    go_enter Try.func21, Try.ntmps21
    go_wp2_with fail
    go_ret
    exact HE.out
end Go.Proofs.Yteiomafciignkaa
