/- The contract of lin.all over any closure; a list of terms in memory. -/
import Derived.Test.YtknagcednppokaaLinA
namespace Go.Proofs.Ytknagcednppokaa
open Go.RowKit

/-- The terms l lie in memory from a on, in a block below B. -/
def Lies (B : Nat) (w : World) (a : Option Addr) (l : List (Int × Int)) : Prop :=
  ∀ i, i < l.length → ∃ b off, a = some ⟨b, off, none⟩ ∧ b < B ∧
    w.cell? ⟨b, off + i * 2, none⟩ = some (.int .i64 (l.getD i (0, 0)).1) ∧ w.cell? ⟨b, off + i * 2 + 1, none⟩ = some (.int .i64 (l.getD i (0, 0)).2)

theorem Lies.mono {B B' : Nat} {w : World} {a : Option Addr} {l : List (Int × Int)} (h : Lies B w a l) (hb : B ≤ B') : Lies B' w a l := fun i hi => by
  obtain ⟨b, off, ha, hlt, h1, h2⟩ := h i hi
  exact ⟨b, off, ha, Nat.lt_of_lt_of_le hlt hb, h1, h2⟩
theorem Lies.below {B : Nat} {w w' : World} {a : Option Addr} {l : List (Int × Int)} (h : Lies B w a l) (hb : Below B w w') : Lies B w' a l := fun i hi => by
  obtain ⟨b, off, ha, hlt, h1, h2⟩ := h i hi
  exact ⟨b, off, ha, hlt, by rw [hb.cell (p := ⟨b, _, none⟩) hlt]; exact h1, by rw [hb.cell (p := ⟨b, _, none⟩) hlt]; exact h2⟩

set_option maxHeartbeats 800000 in
theorem all_yes (g : Nat) (cb : Array Value) (a : Option Addr) (n cap : Nat) (l : List (Int × Int)) (w : World) (I : Nat → World → Prop) (r : Nat → Bool)
    (eg : ∀ args w, (callFunc g args).run Try.prog w = .ok (.enter g args) w)
    (hn : l.length = n) (hm : n ≤ 9223372036854775807) (B : Nat) (hB : B ≤ w.heap.size) (hl : Lies B w a l) (h0 : I 0 w) (hal : ∀ i W o, I i W → I i (W.alloc o))
    (hstep : ∀ i W, i < n → Below B w W → I i W → Calls Try.prog g (#[.agg #[.int .i64 (l.getD i (0, 0)).1, .int .i64 (l.getD i (0, 0)).2]] ++ cb) W
      fun e W' => e = .returned (.bool (r i)) ∧ I (i + 1) W' ∧ Below B W W')
    (hr : ∀ i, i < n → r i = true) :
    Calls Try.prog 47 #[.slice a n cap, .func (.func g) #[] cb] w fun e w' => e = .returned (.bool true) ∧ I n w' ∧ Below B w w' := by
  have HS := Lib.hid hstep
  have HL := Lib.hid hl
  have HA := Lib.hid hal
  have HI := Lib.hid h0
  have HR := Lib.hid hr
  have HN := Lib.hid hn
  clear hstep hl hal h0 hr hn
  go_enter Try.func47, Try.ntmps47
  go_wp2
  go_loopw [9] (fun i wr => ∃ k : Nat, k ≤ n ∧ i = .int .i64 k ∧ Hid (I k wr) ∧ Below B w wr) (fun i _ => n - (intOf i).toNat)
  case atStart => exact ⟨0, Nat.zero_le _, rfl, HI, Below.refl _ _⟩
  case round =>
    obtain ⟨k, hk, rfl, hI, hb⟩ := hrel
    by_cases hlt : k < n
    · obtain ⟨b, off, rfl, hblt, c1, c2⟩ := HL.out k (by rw [HN.out]; exact hlt)
      rw [← hb.cell (p := ⟨b, _, none⟩) hblt] at c1 c2
      have hs : ∀ W, Below B w W → I k W → Calls Try.prog g (#[.agg #[.int .i64 (l.getD k (0, 0)).1, .int .i64 (l.getD k (0, 0)).2]] ++ cb) W
        fun e W' => e = .returned (.bool true) ∧ I (k + 1) W' ∧ Below B W W' := fun W h1 h2 => by
          have := HS.out k W hlt h1 h2
          rw [HR.out k hlt] at this
          exact this
      generalize (l.getD k (0, 0)).1 = v at hs c1
      generalize (l.getD k (0, 0)).2 = u at hs c2
      have HS1 := Lib.hid hs
      clear hs HS
      go_wp2_with fail
      have hb2 := (hb.alloc (Nat.le_trans hB hb.size) (.cells #[.int .i64 v, .int .i64 u] 51))
      refine (HS1.out _ hb2 (HA.out _ _ _ hI.out)).mono ?_
      rintro e w1 ⟨rfl, hI1, hb1⟩
      have HI1 := Lib.hid hI1
      clear hI1 hI HI c1 c2
      go_wp2
      go_roundw
      case rel => exact ⟨k + 1, by omega, by go_num, HI1, hb2.trans hb1⟩
      case measure => simp [intOf]; omega
    · go_wp2
      go_ret
      exact ⟨rfl, by rw [show n = k by omega]; exact hI.out, hb⟩
set_option maxHeartbeats 800000 in
theorem all_no (g : Nat) (cb : Array Value) (a : Option Addr) (n cap : Nat) (l : List (Int × Int)) (w : World) (I : Nat → World → Prop) (r : Nat → Bool)
    (eg : ∀ args w, (callFunc g args).run Try.prog w = .ok (.enter g args) w)
    (hn : l.length = n) (hm : n ≤ 9223372036854775807) (B : Nat) (hB : B ≤ w.heap.size) (hl : Lies B w a l) (h0 : I 0 w) (hal : ∀ i W o, I i W → I i (W.alloc o))
    (hstep : ∀ i W, i < n → Below B w W → I i W → Calls Try.prog g (#[.agg #[.int .i64 (l.getD i (0, 0)).1, .int .i64 (l.getD i (0, 0)).2]] ++ cb) W
      fun e W' => e = .returned (.bool (r i)) ∧ I (i + 1) W' ∧ Below B W W')
    (j : Nat) (hj : j < n) (hr : ∀ i, i < j → r i = true) (hno : r j = false) :
    Calls Try.prog 47 #[.slice a n cap, .func (.func g) #[] cb] w fun e w' => e = .returned (.bool false) ∧ I (j + 1) w' ∧ Below B w w' := by
  have HS := Lib.hid hstep
  have HL := Lib.hid hl
  have HA := Lib.hid hal
  have HI := Lib.hid h0
  have HR := Lib.hid hr
  have HN := Lib.hid hn
  have HO := Lib.hid hno
  clear hstep hl hal h0 hr hn hno
  go_enter Try.func47, Try.ntmps47
  go_wp2
  go_loopw [9] (fun i wr => ∃ k : Nat, k ≤ j ∧ i = .int .i64 k ∧ Hid (I k wr) ∧ Below B w wr) (fun i _ => n - (intOf i).toNat)
  case atStart => exact ⟨0, Nat.zero_le _, rfl, HI, Below.refl _ _⟩
  case round =>
    obtain ⟨k, hk, rfl, hI, hb⟩ := hrel
    have hlt : k < n := by omega
    by_cases hkj : k < j
    · obtain ⟨b, off, rfl, hblt, c1, c2⟩ := HL.out k (by rw [HN.out]; exact hlt)
      rw [← hb.cell (p := ⟨b, _, none⟩) hblt] at c1 c2
      have hs : ∀ W, Below B w W → I k W → Calls Try.prog g (#[.agg #[.int .i64 (l.getD k (0, 0)).1, .int .i64 (l.getD k (0, 0)).2]] ++ cb) W
        fun e W' => e = .returned (.bool true) ∧ I (k + 1) W' ∧ Below B W W' := fun W h1 h2 => by
          have := HS.out k W hlt h1 h2
          rw [HR.out k hkj] at this
          exact this
      generalize (l.getD k (0, 0)).1 = v at hs c1
      generalize (l.getD k (0, 0)).2 = u at hs c2
      have HS1 := Lib.hid hs
      clear hs HS
      go_wp2_with fail
      have hb2 := (hb.alloc (Nat.le_trans hB hb.size) (.cells #[.int .i64 v, .int .i64 u] 51))
      refine (HS1.out _ hb2 (HA.out _ _ _ hI.out)).mono ?_
      rintro e w1 ⟨rfl, hI1, hb1⟩
      have HI1 := Lib.hid hI1
      clear hI1 hI HI c1 c2
      go_wp2
      go_roundw
      case rel => exact ⟨k + 1, by omega, by go_num, HI1, hb2.trans hb1⟩
      case measure => simp [intOf]; omega
    · obtain ⟨b, off, rfl, hblt, c1, c2⟩ := HL.out k (by rw [HN.out]; exact hlt)
      rw [← hb.cell (p := ⟨b, _, none⟩) hblt] at c1 c2
      have hs : ∀ W, Below B w W → I k W → Calls Try.prog g (#[.agg #[.int .i64 (l.getD k (0, 0)).1, .int .i64 (l.getD k (0, 0)).2]] ++ cb) W
        fun e W' => e = .returned (.bool false) ∧ I (k + 1) W' ∧ Below B W W' := fun W h1 h2 => by
          have := HS.out k W hlt h1 h2
          rw [show k = j by omega, HO.out] at this
          rw [show k = j by omega]
          exact this
      generalize (l.getD k (0, 0)).1 = v at hs c1
      generalize (l.getD k (0, 0)).2 = u at hs c2
      have HS1 := Lib.hid hs
      clear hs HS
      go_wp2_with fail
      have hb2 := (hb.alloc (Nat.le_trans hB hb.size) (.cells #[.int .i64 v, .int .i64 u] 51))
      refine (HS1.out _ hb2 (HA.out _ _ _ hI.out)).mono ?_
      rintro e w1 ⟨rfl, hI1, hb1⟩
      have HI1 := Lib.hid hI1
      clear hI1 hI HI c1 c2
      go_wp2
      go_ret
      exact ⟨rfl, by rw [show j = k by omega]; exact HI1.out, hb2.trans hb1⟩

end Go.Proofs.Ytknagcednppokaa
