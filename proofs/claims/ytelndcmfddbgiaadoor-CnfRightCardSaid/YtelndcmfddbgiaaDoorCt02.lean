/- The contract of lin.all over any closure; a list of terms in memory. The contracts of lin.mayStand, of the closures that go through terms, and of the greatest common divisors. The contracts of lin.Check and lin.Gcd. -/
import Derived.Test.YtelndcmfddbgiaaDoorCt01
set_option linter.unusedVariables false
set_option linter.unusedSimpArgs false
namespace Go.Proofs.YtelndcmfddbgiaaDoor
open Go.RowKit

/-- The terms l lie in memory from a on, in a block below B. -/
def Lies (B : Nat) (w : World) (a : Option Addr) (l : List (Int × Int)) : Prop :=
  ∀ i, i < l.length → ∃ b off, a = some ⟨b, off, none⟩ ∧ b < B ∧
    w.cell? ⟨b, off + i * 2, none⟩ = some (.int .i64 (l.getD i (0, 0)).1) ∧ w.cell? ⟨b, off + i * 2 + 1, none⟩ = some (.int .i64 (l.getD i (0, 0)).2)

theorem Lies.mono {B B' : Nat} {w : World} {a : Option Addr} {l : List (Int × Int)} (h : Lies B w a l) (hb : B ≤ B') : Lies B' w a l := fun i hi => by
  obtain ⟨b, off, ha, hlt, h1, h2⟩ := h i hi
  exact ⟨b, off, ha, Nat.lt_of_lt_of_le hlt hb, h1, h2⟩
theorem Lies.below {B : Nat} {w w' : World} {a : Option Addr} {l : List (Int × Int)} (h : Lies B w a l) (hb : Below B w w') : Lies B w' a l := fun i hi => by
  obtain ⟨b, off, ha, hlt, h1, h2⟩ := h i hi
  exact ⟨b, off, ha, hlt, by rw [hb.cell (p := ⟨b, _, none⟩) hlt]; exact h1, by rw [hb.cell (p := ⟨b, _, none⟩) hlt]; exact h2⟩

set_option maxHeartbeats 800000 in
theorem all_yes (g : Nat) (cb : Array Value) (a : Option Addr) (n cap : Nat) (l : List (Int × Int)) (w : World) (I : Nat → World → Prop) (r : Nat → Bool)
    (eg : ∀ args w, (callFunc g args).run Tryd.prog w = .ok (.enter g args) w)
    (hn : l.length = n) (hm : n ≤ 9223372036854775807) (B : Nat) (hB : B ≤ w.heap.size) (hl : Lies B w a l) (h0 : I 0 w) (hal : ∀ i W o, I i W → I i (W.alloc o))
    (hstep : ∀ i W, i < n → Below B w W → I i W → Calls Tryd.prog g (#[.agg #[.int .i64 (l.getD i (0, 0)).1, .int .i64 (l.getD i (0, 0)).2]] ++ cb) W
      fun e W' => e = .returned (.bool (r i)) ∧ I (i + 1) W' ∧ Below B W W')
    (hr : ∀ i, i < n → r i = true) :
    Calls Tryd.prog 77 #[.slice a n cap, .func (.func g) #[] cb] w fun e w' => e = .returned (.bool true) ∧ I n w' ∧ Below B w w' := by
  have HS := Lib.hid hstep
  have HL := Lib.hid hl
  have HA := Lib.hid hal
  have HI := Lib.hid h0
  have HR := Lib.hid hr
  have HN := Lib.hid hn
  clear hstep hl hal h0 hr hn
  go_enter Tryd.func77, Tryd.ntmps77
  go_wp2
  go_loopw [9] (fun i wr => ∃ k : Nat, k ≤ n ∧ i = .int .i64 k ∧ Hid (I k wr) ∧ Below B w wr) (fun i _ => n - (intOf i).toNat)
  case atStart => exact ⟨0, Nat.zero_le _, rfl, HI, Below.refl _ _⟩
  case round =>
    obtain ⟨k, hk, rfl, hI, hb⟩ := hrel
    by_cases hlt : k < n
    · obtain ⟨b, off, rfl, hblt, c1, c2⟩ := HL.out k (by rw [HN.out]; exact hlt)
      rw [← hb.cell (p := ⟨b, _, none⟩) hblt] at c1 c2
      have hs : ∀ W, Below B w W → I k W → Calls Tryd.prog g (#[.agg #[.int .i64 (l.getD k (0, 0)).1, .int .i64 (l.getD k (0, 0)).2]] ++ cb) W
        fun e W' => e = .returned (.bool true) ∧ I (k + 1) W' ∧ Below B W W' := fun W h1 h2 => by
          have := HS.out k W hlt h1 h2
          rw [HR.out k hlt] at this
          exact this
      generalize (l.getD k (0, 0)).1 = v at hs c1
      generalize (l.getD k (0, 0)).2 = u at hs c2
      have HS1 := Lib.hid hs
      clear hs HS
      go_wp2_with fail
      have hb2 := (hb.alloc (Nat.le_trans hB hb.size) (.cells #[.int .i64 v, .int .i64 u] 57))
      refine (HS1.out _ hb2 (HA.out _ _ _ hI.out)).mono ?_
      rintro e w1 ⟨rfl, hI1, hb1⟩
      have HI1 := Lib.hid hI1
      clear hI1 hI HI c1 c2
      go_wp2
      go_roundw
      case rel => exact ⟨k + 1, by omega, by go_num, HI1, hb2.trans hb1⟩
      case measure => simp [intOf]; omega
    · go_wp2
      go_ret
      exact ⟨rfl, by rw [show n = k by omega]; exact hI.out, hb⟩
set_option maxHeartbeats 800000 in
theorem all_no (g : Nat) (cb : Array Value) (a : Option Addr) (n cap : Nat) (l : List (Int × Int)) (w : World) (I : Nat → World → Prop) (r : Nat → Bool)
    (eg : ∀ args w, (callFunc g args).run Tryd.prog w = .ok (.enter g args) w)
    (hn : l.length = n) (hm : n ≤ 9223372036854775807) (B : Nat) (hB : B ≤ w.heap.size) (hl : Lies B w a l) (h0 : I 0 w) (hal : ∀ i W o, I i W → I i (W.alloc o))
    (hstep : ∀ i W, i < n → Below B w W → I i W → Calls Tryd.prog g (#[.agg #[.int .i64 (l.getD i (0, 0)).1, .int .i64 (l.getD i (0, 0)).2]] ++ cb) W
      fun e W' => e = .returned (.bool (r i)) ∧ I (i + 1) W' ∧ Below B W W')
    (j : Nat) (hj : j < n) (hr : ∀ i, i < j → r i = true) (hno : r j = false) :
    Calls Tryd.prog 77 #[.slice a n cap, .func (.func g) #[] cb] w fun e w' => e = .returned (.bool false) ∧ I (j + 1) w' ∧ Below B w w' := by
  have HS := Lib.hid hstep
  have HL := Lib.hid hl
  have HA := Lib.hid hal
  have HI := Lib.hid h0
  have HR := Lib.hid hr
  have HN := Lib.hid hn
  have HO := Lib.hid hno
  clear hstep hl hal h0 hr hn hno
  go_enter Tryd.func77, Tryd.ntmps77
  go_wp2
  go_loopw [9] (fun i wr => ∃ k : Nat, k ≤ j ∧ i = .int .i64 k ∧ Hid (I k wr) ∧ Below B w wr) (fun i _ => n - (intOf i).toNat)
  case atStart => exact ⟨0, Nat.zero_le _, rfl, HI, Below.refl _ _⟩
  case round =>
    obtain ⟨k, hk, rfl, hI, hb⟩ := hrel
    have hlt : k < n := by omega
    by_cases hkj : k < j
    · obtain ⟨b, off, rfl, hblt, c1, c2⟩ := HL.out k (by rw [HN.out]; exact hlt)
      rw [← hb.cell (p := ⟨b, _, none⟩) hblt] at c1 c2
      have hs : ∀ W, Below B w W → I k W → Calls Tryd.prog g (#[.agg #[.int .i64 (l.getD k (0, 0)).1, .int .i64 (l.getD k (0, 0)).2]] ++ cb) W
        fun e W' => e = .returned (.bool true) ∧ I (k + 1) W' ∧ Below B W W' := fun W h1 h2 => by
          have := HS.out k W hlt h1 h2
          rw [HR.out k hkj] at this
          exact this
      generalize (l.getD k (0, 0)).1 = v at hs c1
      generalize (l.getD k (0, 0)).2 = u at hs c2
      have HS1 := Lib.hid hs
      clear hs HS
      go_wp2_with fail
      have hb2 := (hb.alloc (Nat.le_trans hB hb.size) (.cells #[.int .i64 v, .int .i64 u] 57))
      refine (HS1.out _ hb2 (HA.out _ _ _ hI.out)).mono ?_
      rintro e w1 ⟨rfl, hI1, hb1⟩
      have HI1 := Lib.hid hI1
      clear hI1 hI HI c1 c2
      go_wp2
      go_roundw
      case rel => exact ⟨k + 1, by omega, by go_num, HI1, hb2.trans hb1⟩
      case measure => simp [intOf]; omega
    · obtain ⟨b, off, rfl, hblt, c1, c2⟩ := HL.out k (by rw [HN.out]; exact hlt)
      rw [← hb.cell (p := ⟨b, _, none⟩) hblt] at c1 c2
      have hs : ∀ W, Below B w W → I k W → Calls Tryd.prog g (#[.agg #[.int .i64 (l.getD k (0, 0)).1, .int .i64 (l.getD k (0, 0)).2]] ++ cb) W
        fun e W' => e = .returned (.bool false) ∧ I (k + 1) W' ∧ Below B W W' := fun W h1 h2 => by
          have := HS.out k W hlt h1 h2
          rw [show k = j by omega, HO.out] at this
          rw [show k = j by omega]
          exact this
      generalize (l.getD k (0, 0)).1 = v at hs c1
      generalize (l.getD k (0, 0)).2 = u at hs c2
      have HS1 := Lib.hid hs
      clear hs HS
      go_wp2_with fail
      have hb2 := (hb.alloc (Nat.le_trans hB hb.size) (.cells #[.int .i64 v, .int .i64 u] 57))
      refine (HS1.out _ hb2 (HA.out _ _ _ hI.out)).mono ?_
      rintro e w1 ⟨rfl, hI1, hb1⟩
      have HI1 := Lib.hid hI1
      clear hI1 hI HI c1 c2
      go_wp2
      go_ret
      exact ⟨rfl, by rw [show j = k by omega]; exact HI1.out, hb2.trans hb1⟩

end Go.Proofs.YtelndcmfddbgiaaDoor

namespace Go.Proofs.YtelndcmfddbgiaaDoor
open Go.RowKit

/-- A term may stand. -/
def mst (v k : Int) : Bool := decide (0 ≤ v ∧ v < 1048576) && wi k 1073741824
theorem mst_f1 {v k : Int} (h : ¬ (0 ≤ v ∧ v < 1048576)) : mst v k = false := by unfold mst; rw [decide_eq_false h]; rfl
theorem mst_t1 {v k : Int} (h : 0 ≤ v ∧ v < 1048576) : mst v k = wi k 1073741824 := by unfold mst; rw [decide_eq_true h]; rfl

set_option maxHeartbeats 400000 in
theorem mayStand_any (v k : Int) (w : World) :
    Calls Tryd.prog 79 #[.agg #[.int .i64 v, .int .i64 k]] w fun e w' => e = .returned (.bool (mst v k)) ∧ Below w.heap.size w w' := by
  by_cases a : 0 ≤ v
  · by_cases b : v < 1048576
    · rw [mst_t1 ⟨a, b⟩]
      go_enter Tryd.func79, Tryd.ntmps79
      go_wp2_with (go_at_call 76; refine (within_any _ _ _ (by omega) (by omega)).mono ?_; rintro e w' ⟨rfl, rfl⟩)
      go_ret
      exact ⟨rfl, (Below.refl _ _).alloc (Nat.le_refl _) _⟩
    · rw [mst_f1 (by omega)]
      go_enter Tryd.func79, Tryd.ntmps79
      go_wp2
      go_ret
      exact ⟨rfl, (Below.refl _ _).alloc (Nat.le_refl _) _⟩
  · rw [mst_f1 (by omega)]
    go_enter Tryd.func79, Tryd.ntmps79
    go_wp2
    go_ret
    exact ⟨rfl, (Below.refl _ _).alloc (Nat.le_refl _) _⟩

/-- What lin.Check's closure says of a term behind a variable. -/
def chk (last v k : Int) : Bool := decide (last < v) && (decide (k ≠ 0) && mst v k)

theorem chk_1 {last v k : Int} (h : ¬ last < v) : chk last v k = false := by unfold chk; rw [decide_eq_false h]; rfl
theorem chk_2 {last v k : Int} (h : k = 0) : chk last v k = false := by unfold chk; rw [decide_eq_false (p := k ≠ 0) (by omega)]; simp
theorem chk_3 {last v k : Int} (h : last < v) (h2 : k ≠ 0) : chk last v k = mst v k := by unfold chk; rw [decide_eq_true h, decide_eq_true h2]; simp

/-- A variable of the call's own: a block of one integer. -/
def Own (w : World) (p : Nat) (x : Int) : Prop := p < w.heap.size ∧ w.cell? ⟨p, 0, none⟩ = some (.int .i64 x) ∧ w.frozen? ⟨p, 0, none⟩ = false

theorem Own.alloc {w : World} {p : Nat} {x : Int} (h : Own w p x) (o : Obj) : Own (w.alloc o) p x := by
  have hb := (Below.refl w.heap.size w).alloc (Nat.le_refl _) o
  exact ⟨Nat.lt_of_lt_of_le h.1 hb.size, by rw [hb.cell (p := ⟨p, 0, none⟩) h.1]; exact h.2.1, by rw [hb.frozen (p := ⟨p, 0, none⟩) h.1]; exact h.2.2⟩
theorem Own.below {w w' : World} {p : Nat} {x : Int} (h : Own w p x) (hb : Below w.heap.size w w') : Own w' p x :=
  ⟨Nat.lt_of_lt_of_le h.1 hb.size, by rw [hb.cell (p := ⟨p, 0, none⟩) h.1]; exact h.2.1, by rw [hb.frozen (p := ⟨p, 0, none⟩) h.1]; exact h.2.2⟩
theorem Own.drewN {w : World} {p : Nat} {x : Int} (h : Own w p x) (n : Nat) : Own (w.drewN n) p x := h
theorem Own.set {w : World} {p : Nat} {x : Int} (h : Own w p x) (y : Int) : Own (w.setCell ⟨p, 0, none⟩ (.int .i64 y)) p y :=
  ⟨by simpa [World.setCell] using h.1, World.cell?_setCell_same _ _ _ h.2.1, by rw [World.frozen?_setCell]; exact h.2.2⟩

set_option maxHeartbeats 400000 in
theorem checkLit_any (p : Nat) (last v k : Int) (w : World) (ho : Own w p last) :
    Calls Tryd.prog 78 #[.agg #[.int .i64 v, .int .i64 k], .pointer (some ⟨p, 0, none⟩)] w fun e w' => e = .returned (.bool (chk last v k)) ∧ Own w' p v ∧ Below p w w' := by
  have O1 := Lib.hid ((ho.set v).alloc (.cells #[.int .i64 v, .int .i64 k] 57))
  have B1 := Lib.hid (((Below.refl p w).setCell (p := ⟨p, 0, none⟩) (Nat.le_refl _) (.int .i64 v)).alloc (Nat.le_of_lt (ho.set v).1) (.cells #[.int .i64 v, .int .i64 k] 57))
  obtain ⟨h1, h2, h3⟩ := ho
  by_cases a : last < v
  · by_cases b : k = 0
    · subst b
      rw [chk_2 rfl]
      go_enter Tryd.func78, Tryd.ntmps78
      go_wp2_with fail
      go_ret
      exact ⟨rfl, O1.out, B1.out⟩
    · rw [chk_3 a b]
      have hk : (k != 0) = true := by simpa using b
      go_enter Tryd.func78, Tryd.ntmps78
      go_wp2_with (go_at_call 79; refine (mayStand_any _ _ _).mono ?_; rintro e w' ⟨rfl, hb⟩)
      go_ret
      exact ⟨rfl, O1.out.below hb, B1.out.trans (hb.mono (Nat.le_of_lt O1.out.1))⟩
  · rw [chk_1 a]
    go_enter Tryd.func78, Tryd.ntmps78
    go_wp2_with fail
    go_ret
    exact ⟨rfl, O1.out, B1.out⟩

/-- What lin.common computes. -/
def com (a b : Int) : Int := if b = 0 then (if a < 0 then -a else a) else com b (a.tmod b)
termination_by b.natAbs
decreasing_by
  rename_i h
  have := Int.natAbs_tmod a b
  rw [this]
  exact Nat.mod_lt _ (by omega)

theorem com_nat (a b : Int) : com a b = (Nat.gcd a.natAbs b.natAbs : Nat) := by
  induction a, b using com.induct with
  | case1 a h => rw [com, if_pos rfl, if_pos h]; simp; omega
  | case2 a h => rw [com, if_pos rfl, if_neg h]; simp; omega
  | case3 a b h ih => rw [com, if_neg h, ih, Int.natAbs_tmod, Nat.gcd_comm a.natAbs, Nat.gcd_rec b.natAbs a.natAbs, Nat.gcd_comm]

theorem tmod_in (a b : Int) (h1 : -1073741824 ≤ a) (h2 : a ≤ 1073741824) (_h3 : -1073741824 ≤ b) (_h4 : b ≤ 1073741824) : -1073741824 ≤ a.tmod b ∧ a.tmod b ≤ 1073741824 := by
  have h : (a.tmod b).natAbs ≤ a.natAbs := by rw [Int.natAbs_tmod]; exact Nat.mod_le _ _
  omega
theorem tmod_lt (a b : Int) (h : b ≠ 0) : (a.tmod b).natAbs < b.natAbs := by rw [Int.natAbs_tmod]; exact Nat.mod_lt _ (by omega)

set_option maxHeartbeats 800000 in
theorem common_any (a b : Int) (w : World) (ha : -1073741824 ≤ a) (ha2 : a ≤ 1073741824) (hb : -1073741824 ≤ b) (hb2 : b ≤ 1073741824) :
    Calls Tryd.prog 83 #[.int .i64 a, .int .i64 b] w fun e w' => e = .returned (.int .i64 (com a b)) ∧ ∃ n, w' = w.drewN n := by
  go_enter Tryd.func83, Tryd.ntmps83
  go_wp2
  go_loopw [0, 1] (fun x y wr => ∃ c d : Int, x = .int .i64 c ∧ y = .int .i64 d ∧ -1073741824 ≤ c ∧ c ≤ 1073741824 ∧ -1073741824 ≤ d ∧ d ≤ 1073741824 ∧ Hid (com c d = com a b) ∧ Hid (∃ n, wr = w.drewN n)) (fun _ y _ => (intOf y).natAbs)
  case atStart => exact ⟨a, b, rfl, rfl, ha, ha2, hb, hb2, rfl, 0, rfl⟩
  case round =>
    obtain ⟨c, d, rfl, rfl, h1, h2, h3, h4, hc, hw⟩ := hrel
    by_cases hd : d = 0
    · subst hd
      by_cases hn : c < 0
      · go_wp2
        go_ret
        exact ⟨ret_int (by rw [← hc.out, com, if_pos rfl, if_pos hn]), hw.out⟩
      · go_wp2
        go_ret
        exact ⟨ret_int (by rw [← hc.out, com, if_pos rfl, if_neg (by omega)]), hw.out⟩
    · have hd2 : (d != 0) = true := by simpa using hd
      have ht := tmod_in c d h1 h2 h3 h4
      have hlt := tmod_lt c d hd
      go_wp2
      go_quiet (fail)
      go_roundw
      case rel =>
        refine ⟨_, _, _, _, _, _, _, _, ⟨d, c.tmod d, rfl, rfl, h3, h4, ht.1, ht.2, ?_, ?_⟩, rfl⟩
        · show com _ _ = _
          rw [← hc.out, com.eq_def c d, if_neg hd]
        · obtain ⟨m, hm⟩ := hw.out
          exact ⟨_, by rw [hm, World.drewN_drewN]⟩
      case measure => simpa [intOf] using hlt

set_option maxHeartbeats 400000 in
theorem gcdLit_any (p : Nat) (g v k : Int) (w : World) (ho : Own w p g) (ha : -1073741824 ≤ g) (ha2 : g ≤ 1073741824) (hb : -1073741824 ≤ k) (hb2 : k ≤ 1073741824) :
    Calls Tryd.prog 82 #[.agg #[.int .i64 v, .int .i64 k], .pointer (some ⟨p, 0, none⟩)] w fun e w' => e = .returned (.bool true) ∧ Own w' p (com g k) ∧ Below p w w' := by
  have hcom := common_any g k
  have O1 := Lib.hid ho
  obtain ⟨h1, h2, h3⟩ := ho
  generalize hc : com g k = c at *
  have C1 := Lib.hid hc
  clear hc
  go_enter Tryd.func82, Tryd.ntmps82
  go_wp2_with (go_at_call 83; refine (hcom _ ha ha2 hb hb2).mono ?_; rintro e w' ⟨rfl, n, rfl⟩)
  go_ret
  exact ⟨rfl, by rw [← C1.out]; exact ((O1.out.alloc _).drewN n).set _, (below_drewN ((Below.refl p w).alloc (Nat.le_of_lt O1.out.1) _) n).setCell (p := ⟨p, 0, none⟩) (Nat.le_refl _) _⟩
end Go.Proofs.YtelndcmfddbgiaaDoor

namespace Go.Proofs.YtelndcmfddbgiaaDoor
open Go.RowKit

def lastAt (l : List (Int × Int)) (i : Nat) : Int := if i = 0 then -1 else (l.getD (i - 1) (0, 0)).1
def okAt (l : List (Int × Int)) (i : Nat) : Bool := chk (lastAt l i) (l.getD i (0, 0)).1 (l.getD i (0, 0)).2
/-- A form is sound. -/
def snd (c : Int) (l : List (Int × Int)) : Bool := wi c 1073741824 && (decide (l.length ≤ 64) && decide (∀ i, i < l.length → okAt l i = true))

theorem lastAt_zero (l : List (Int × Int)) : lastAt l 0 = -1 := rfl
theorem lastAt_succ (l : List (Int × Int)) (i : Nat) : lastAt l (i + 1) = (l.getD i (0, 0)).1 := by unfold lastAt; rw [if_neg (by omega)]; rfl

theorem snd_iff {c : Int} {l : List (Int × Int)} : snd c l = true ↔ wi c 1073741824 = true ∧ l.length ≤ 64 ∧ ∀ i, i < l.length → okAt l i = true := by
  unfold snd; simp [Bool.and_eq_true]
/-- The first that isn't so. -/
theorem first_no (r : Nat → Bool) : ∀ n, ¬ (∀ i, i < n → r i = true) → ∃ j, j < n ∧ (∀ i, i < j → r i = true) ∧ r j = false
  | 0, h => absurd (fun i hi => absurd hi (Nat.not_lt_zero i)) h
  | n + 1, h => by
    by_cases hn : ∀ i, i < n → r i = true
    · refine ⟨n, Nat.lt_succ_self n, hn, ?_⟩
      cases hr : r n with
      | false => rfl
      | true => exact absurd (fun i hi => by
          by_cases e : i = n
          · rw [e]; exact hr
          · exact hn i (by omega)) h
    · obtain ⟨j, hj, h1, h2⟩ := first_no r n hn
      exact ⟨j, by omega, h1, h2⟩

theorem Tryd.enters25 : ∀ args w, (callFunc 78 args).run Tryd.prog w = .ok (.enter 78 args) w := fun _ _ => by kernel_rfl

theorem Own.new (w : World) (t : TypeId) (x : Int) : Own (w.alloc (.cells #[.int .i64 x] t)) w.heap.size x := by
  refine ⟨by simp, ?_, ?_⟩
  · exact cell_of_one (heap_alloc_new w _)
  · exact free_of_one (heap_alloc_new w _)

/-- All terms are looked through, all are sound. -/
theorem checkAll_yes (p : Nat) (a : Option Addr) (n cap : Nat) (l : List (Int × Int)) (w : World) (B : Nat) (hB : B ≤ p) (hn : l.length = n) (hm : n ≤ 64) (hl : Lies B w a l) (ho : Own w p (-1)) (h : ∀ i, i < n → okAt l i = true) :
    Calls Tryd.prog 77 #[.slice a n cap, .func (.func 78) #[] #[.pointer (some ⟨p, 0, none⟩)]] w fun e w' => e = .returned (.bool true) ∧ Below B w w' :=
  (all_yes 78 #[.pointer (some ⟨p, 0, none⟩)] a n cap l w (fun i W => Own W p (lastAt l i)) (okAt l) Tryd.enters25 hn (by omega) B (Nat.le_trans hB (Nat.le_of_lt ho.1)) hl ho
    (fun _ _ o h => h.alloc o)
    (fun i W _ _ hI => (checkLit_any p (lastAt l i) (l.getD i (0, 0)).1 (l.getD i (0, 0)).2 W hI).mono fun _ _ ⟨he, ho', hb⟩ => ⟨he, by rw [lastAt_succ]; exact ho', hb.mono hB⟩)
    h).mono fun _ _ ⟨he, _, hb⟩ => ⟨he, hb⟩
theorem checkAll_no (p : Nat) (a : Option Addr) (n cap : Nat) (l : List (Int × Int)) (w : World) (B : Nat) (hB : B ≤ p) (hn : l.length = n) (hm : n ≤ 64) (hl : Lies B w a l) (ho : Own w p (-1)) (h : ¬ ∀ i, i < n → okAt l i = true) :
    Calls Tryd.prog 77 #[.slice a n cap, .func (.func 78) #[] #[.pointer (some ⟨p, 0, none⟩)]] w fun e w' => e = .returned (.bool false) ∧ Below B w w' := by
  obtain ⟨j, hj, h1, h2⟩ := first_no _ _ h
  exact (all_no 78 #[.pointer (some ⟨p, 0, none⟩)] a n cap l w (fun i W => Own W p (lastAt l i)) (okAt l) Tryd.enters25 hn (by omega) B (Nat.le_trans hB (Nat.le_of_lt ho.1)) hl ho
    (fun _ _ o h => h.alloc o)
    (fun i W _ _ hI => (checkLit_any p (lastAt l i) (l.getD i (0, 0)).1 (l.getD i (0, 0)).2 W hI).mono fun _ _ ⟨he, ho', hb⟩ => ⟨he, by rw [lastAt_succ]; exact ho', hb.mono hB⟩)
    j hj h1 h2).mono fun _ _ ⟨he, _, hb⟩ => ⟨he, hb⟩

set_option maxHeartbeats 800000 in
theorem check_yes (c : Int) (a : Option Addr) (n cap : Nat) (l : List (Int × Int)) (w : World) (hn : l.length = n) (hl : Lies w.heap.size w a l) (hs : snd c l = true) :
    Calls Tryd.prog 67 #[.agg #[.int .i64 c, .slice a n cap]] w fun e w' => e = .returned .nilIface ∧ Below w.heap.size w w' := by
  obtain ⟨hc, h64, hall⟩ := snd_iff.1 hs
  have hwi := fun w => within_any c 1073741824 w (by omega) (by omega)
  rw [hc] at hwi
  have h64' : n ≤ 64 := by omega
  rw [hn] at hall
  have hb : Below w.heap.size w ((w.alloc (.cells #[.int .i64 c, .slice a n cap] 24)).alloc (.cells #[.int .i64 (-1)] 3)) := ((Below.refl _ w).alloc (Nat.le_refl _) _).alloc (by simp) _
  have hal := checkAll_yes (w.heap.size + 1) a n cap l _ w.heap.size (by omega) hn h64' (hl.below hb) (by have := Own.new (w.alloc (.cells #[.int .i64 c, .slice a n cap] 24)) 3 (-1); simpa using this) hall
  have HB := Lib.hid hb
  clear hn hs hall hl hc h64 hb
  go_enter Tryd.func67, Tryd.ntmps67
  go_wp2_with (first | (go_at_call 76; refine (hwi _).mono ?_; rintro e w' ⟨rfl, rfl⟩) | (go_at_call 77; refine hal.mono ?_; rintro e w' ⟨rfl, hb2⟩))
  go_ret
  exact ⟨rfl, HB.out.trans hb2⟩

set_option maxHeartbeats 800000 in
theorem check_no (c : Int) (a : Option Addr) (n cap : Nat) (l : List (Int × Int)) (w : World) (hn : l.length = n) (hm : n ≤ 9223372036854775807) (hl : Lies w.heap.size w a l) (hs : snd c l = false) :
    Calls Tryd.prog 67 #[.agg #[.int .i64 c, .slice a n cap]] w fun e w' => e = .returned (.iface 43 (.int .i64 5)) ∧ Below w.heap.size w w' := by
  have hwi := fun w => within_any c 1073741824 w (by omega) (by omega)
  have hb : Below w.heap.size w ((w.alloc (.cells #[.int .i64 c, .slice a n cap] 24)).alloc (.cells #[.int .i64 (-1)] 3)) := ((Below.refl _ w).alloc (Nat.le_refl _) _).alloc (by simp) _
  by_cases hc : wi c 1073741824 = true
  · rw [hc] at hwi
    by_cases h64 : n ≤ 64
    · have hno : ¬ ∀ i, i < n → okAt l i = true := fun h => by
        have := (snd_iff (c := c) (l := l)).2 ⟨hc, by omega, by rw [hn]; exact h⟩
        rw [hs] at this; cases this
      have hal := checkAll_no (w.heap.size + 1) a n cap l _ w.heap.size (by omega) hn h64 (hl.below hb) (by have := Own.new (w.alloc (.cells #[.int .i64 c, .slice a n cap] 24)) 3 (-1); simpa using this) hno
      have HB := Lib.hid hb
      clear hn hs hl hc hb hno
      go_enter Tryd.func67, Tryd.ntmps67
      go_wp2_with (first | (go_at_call 76; refine (hwi _).mono ?_; rintro e w' ⟨rfl, rfl⟩) | (go_at_call 77; refine hal.mono ?_; rintro e w' ⟨rfl, hb2⟩))
      go_ret
      exact ⟨rfl, HB.out.trans hb2⟩
    · clear hn hs hl hc hb
      go_enter Tryd.func67, Tryd.ntmps67
      go_wp2_with (go_at_call 76; refine (hwi _).mono ?_; rintro e w' ⟨rfl, rfl⟩)
      go_ret
      exact ⟨rfl, (Below.refl _ w).alloc (Nat.le_refl _) _⟩
  · have hc' : wi c 1073741824 = false := by simpa using hc
    rw [hc'] at hwi
    clear hn hs hl hc hc' hb
    go_enter Tryd.func67, Tryd.ntmps67
    go_wp2_with (go_at_call 76; refine (hwi _).mono ?_; rintro e w' ⟨rfl, rfl⟩)
    go_ret
    exact ⟨rfl, (Below.refl _ w).alloc (Nat.le_refl _) _⟩
end Go.Proofs.YtelndcmfddbgiaaDoor
