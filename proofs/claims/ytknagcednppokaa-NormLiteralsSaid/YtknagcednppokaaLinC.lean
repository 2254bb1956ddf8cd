/- The contracts of lin.mayStand, of the closures that go through terms, and of the greatest common divisors. -/
import Derived.Test.YtknagcednppokaaLinB
namespace Go.Proofs.Ytknagcednppokaa
open Go.RowKit

/-- A term may stand. -/
def mst (v k : Int) : Bool := decide (0 ≤ v ∧ v < 1048576) && wi k 1073741824
theorem mst_f1 {v k : Int} (h : ¬ (0 ≤ v ∧ v < 1048576)) : mst v k = false := by unfold mst; rw [decide_eq_false h]; rfl
theorem mst_t1 {v k : Int} (h : 0 ≤ v ∧ v < 1048576) : mst v k = wi k 1073741824 := by unfold mst; rw [decide_eq_true h]; rfl

set_option maxHeartbeats 400000 in
theorem mayStand_any (v k : Int) (w : World) :
    Calls Try.prog 49 #[.agg #[.int .i64 v, .int .i64 k]] w fun e w' => e = .returned (.bool (mst v k)) ∧ Below w.heap.size w w' := by
  by_cases a : 0 ≤ v
  · by_cases b : v < 1048576
    · rw [mst_t1 ⟨a, b⟩]
      go_enter Try.func49, Try.ntmps49
      go_wp2_with (go_at_call 46; refine (within_any _ _ _ (by omega) (by omega)).mono ?_; rintro e w' ⟨rfl, rfl⟩)
      go_ret
      exact ⟨rfl, (Below.refl _ _).alloc (Nat.le_refl _) _⟩
    · rw [mst_f1 (by omega)]
      go_enter Try.func49, Try.ntmps49
      go_wp2
      go_ret
      exact ⟨rfl, (Below.refl _ _).alloc (Nat.le_refl _) _⟩
  · rw [mst_f1 (by omega)]
    go_enter Try.func49, Try.ntmps49
    go_wp2
    go_ret
    exact ⟨rfl, (Below.refl _ _).alloc (Nat.le_refl _) _⟩

/-- What lin.Check's closure says of a term behind a variable. -/
def chk (last v k : Int) : Bool := decide (last < v) && (decide (k ≠ 0) && mst v k)

theorem chk_1 {last v k : Int} (h : ¬ last < v) : chk last v k = false := by unfold chk; rw [decide_eq_false h]; rfl
theorem chk_2 {last v k : Int} (h : k = 0) : chk last v k = false := by unfold chk; rw [decide_eq_false (p := k ≠ 0) (by omega)]; simp
theorem chk_3 {last v k : Int} (h : last < v) (h2 : k ≠ 0) : chk last v k = mst v k := by unfold chk; rw [decide_eq_true h, decide_eq_true h2]; simp

/-- A variable of the call's own: a block of one integer. -/
def Own (w : World) (p : Nat) (x : Int) : Prop := p < w.heap.size ∧ w.cell? ⟨p, 0, none⟩ = some (.int .i64 x) ∧ w.frozen? ⟨p, 0, none⟩ = false

theorem Own.alloc {w : World} {p : Nat} {x : Int} (h : Own w p x) (o : Obj) : Own (w.alloc o) p x := by
  have hb := (Below.refl w.heap.size w).alloc (Nat.le_refl _) o
  exact ⟨Nat.lt_of_lt_of_le h.1 hb.size, by rw [hb.cell (p := ⟨p, 0, none⟩) h.1]; exact h.2.1, by rw [hb.frozen (p := ⟨p, 0, none⟩) h.1]; exact h.2.2⟩
theorem Own.below {w w' : World} {p : Nat} {x : Int} (h : Own w p x) (hb : Below w.heap.size w w') : Own w' p x :=
  ⟨Nat.lt_of_lt_of_le h.1 hb.size, by rw [hb.cell (p := ⟨p, 0, none⟩) h.1]; exact h.2.1, by rw [hb.frozen (p := ⟨p, 0, none⟩) h.1]; exact h.2.2⟩
theorem Own.drewN {w : World} {p : Nat} {x : Int} (h : Own w p x) (n : Nat) : Own (w.drewN n) p x := h
theorem Own.set {w : World} {p : Nat} {x : Int} (h : Own w p x) (y : Int) : Own (w.setCell ⟨p, 0, none⟩ (.int .i64 y)) p y :=
  ⟨by simpa [World.setCell] using h.1, World.cell?_setCell_same _ _ _ h.2.1, by rw [World.frozen?_setCell]; exact h.2.2⟩

set_option maxHeartbeats 400000 in
theorem checkLit_any (p : Nat) (last v k : Int) (w : World) (ho : Own w p last) :
    Calls Try.prog 48 #[.agg #[.int .i64 v, .int .i64 k], .pointer (some ⟨p, 0, none⟩)] w fun e w' => e = .returned (.bool (chk last v k)) ∧ Own w' p v ∧ Below p w w' := by
  have O1 := Lib.hid ((ho.set v).alloc (.cells #[.int .i64 v, .int .i64 k] 51))
  have B1 := Lib.hid (((Below.refl p w).setCell (p := ⟨p, 0, none⟩) (Nat.le_refl _) (.int .i64 v)).alloc (Nat.le_of_lt (ho.set v).1) (.cells #[.int .i64 v, .int .i64 k] 51))
  obtain ⟨h1, h2, h3⟩ := ho
  by_cases a : last < v
  · by_cases b : k = 0
    · subst b
      rw [chk_2 rfl]
      go_enter Try.func48, Try.ntmps48
      go_wp2_with fail
      go_ret
      exact ⟨rfl, O1.out, B1.out⟩
    · rw [chk_3 a b]
      have hk : (k != 0) = true := by simpa using b
      go_enter Try.func48, Try.ntmps48
      go_wp2_with (go_at_call 49; refine (mayStand_any _ _ _).mono ?_; rintro e w' ⟨rfl, hb⟩)
      go_ret
      exact ⟨rfl, O1.out.below hb, B1.out.trans (hb.mono (Nat.le_of_lt O1.out.1))⟩
  · rw [chk_1 a]
    go_enter Try.func48, Try.ntmps48
    go_wp2_with fail
    go_ret
    exact ⟨rfl, O1.out, B1.out⟩

/-- What lin.common computes. -/
def com (a b : Int) : Int := if b = 0 then (if a < 0 then -a else a) else com b (a.tmod b)
termination_by b.natAbs
decreasing_by
  rename_i h
  have := Int.natAbs_tmod a b
  rw [this]
  exact Nat.mod_lt _ (by omega)

theorem com_nat (a b : Int) : com a b = (Nat.gcd a.natAbs b.natAbs : Nat) := by
  induction a, b using com.induct with
  | case1 a h => rw [com, if_pos rfl, if_pos h]; simp; omega
  | case2 a h => rw [com, if_pos rfl, if_neg h]; simp; omega
  | case3 a b h ih => rw [com, if_neg h, ih, Int.natAbs_tmod, Nat.gcd_comm a.natAbs, Nat.gcd_rec b.natAbs a.natAbs, Nat.gcd_comm]

theorem tmod_in (a b : Int) (h1 : -1073741824 ≤ a) (h2 : a ≤ 1073741824) (_h3 : -1073741824 ≤ b) (_h4 : b ≤ 1073741824) : -1073741824 ≤ a.tmod b ∧ a.tmod b ≤ 1073741824 := by
  have h : (a.tmod b).natAbs ≤ a.natAbs := by rw [Int.natAbs_tmod]; exact Nat.mod_le _ _
  omega
theorem tmod_lt (a b : Int) (h : b ≠ 0) : (a.tmod b).natAbs < b.natAbs := by rw [Int.natAbs_tmod]; exact Nat.mod_lt _ (by omega)

set_option maxHeartbeats 800000 in
theorem common_any (a b : Int) (w : World) (ha : -1073741824 ≤ a) (ha2 : a ≤ 1073741824) (hb : -1073741824 ≤ b) (hb2 : b ≤ 1073741824) :
    Calls Try.prog 67 #[.int .i64 a, .int .i64 b] w fun e w' => e = .returned (.int .i64 (com a b)) ∧ ∃ n, w' = w.drewN n := by
  go_enter Try.func67, Try.ntmps67
  go_wp2
  go_loopw [0, 1] (fun x y wr => ∃ c d : Int, x = .int .i64 c ∧ y = .int .i64 d ∧ -1073741824 ≤ c ∧ c ≤ 1073741824 ∧ -1073741824 ≤ d ∧ d ≤ 1073741824 ∧ Hid (com c d = com a b) ∧ Hid (∃ n, wr = w.drewN n)) (fun _ y _ => (intOf y).natAbs)
  case atStart => exact ⟨a, b, rfl, rfl, ha, ha2, hb, hb2, rfl, 0, rfl⟩
  case round =>
    obtain ⟨c, d, rfl, rfl, h1, h2, h3, h4, hc, hw⟩ := hrel
    by_cases hd : d = 0
    · subst hd
      by_cases hn : c < 0
      · go_wp2
        go_ret
        exact ⟨ret_int (by rw [← hc.out, com, if_pos rfl, if_pos hn]), hw.out⟩
      · go_wp2
        go_ret
        exact ⟨ret_int (by rw [← hc.out, com, if_pos rfl, if_neg (by omega)]), hw.out⟩
    · have hd2 : (d != 0) = true := by simpa using hd
      have ht := tmod_in c d h1 h2 h3 h4
      have hlt := tmod_lt c d hd
      go_wp2
      go_quiet (fail)
      go_roundw
      case rel =>
        refine ⟨_, _, _, _, _, _, _, _, ⟨d, c.tmod d, rfl, rfl, h3, h4, ht.1, ht.2, ?_, ?_⟩, rfl⟩
        · show com _ _ = _
          rw [← hc.out, com.eq_def c d, if_neg hd]
        · obtain ⟨m, hm⟩ := hw.out
          exact ⟨_, by rw [hm, World.drewN_drewN]⟩
      case measure => simpa [intOf] using hlt

set_option maxHeartbeats 400000 in
theorem gcdLit_any (p : Nat) (g v k : Int) (w : World) (ho : Own w p g) (ha : -1073741824 ≤ g) (ha2 : g ≤ 1073741824) (hb : -1073741824 ≤ k) (hb2 : k ≤ 1073741824) :
    Calls Try.prog 66 #[.agg #[.int .i64 v, .int .i64 k], .pointer (some ⟨p, 0, none⟩)] w fun e w' => e = .returned (.bool true) ∧ Own w' p (com g k) ∧ Below p w w' := by
  have hcom := common_any g k
  have O1 := Lib.hid ho
  obtain ⟨h1, h2, h3⟩ := ho
  generalize hc : com g k = c at *
  have C1 := Lib.hid hc
  clear hc
  go_enter Try.func66, Try.ntmps66
  go_wp2_with (go_at_call 67; refine (hcom _ ha ha2 hb hb2).mono ?_; rintro e w' ⟨rfl, n, rfl⟩)
  go_ret
  exact ⟨rfl, by rw [← C1.out]; exact ((O1.out.alloc _).drewN n).set _, (below_drewN ((Below.refl p w).alloc (Nat.le_of_lt O1.out.1) _) n).setCell (p := ⟨p, 0, none⟩) (Nat.le_refl _) _⟩
end Go.Proofs.Ytknagcednppokaa
