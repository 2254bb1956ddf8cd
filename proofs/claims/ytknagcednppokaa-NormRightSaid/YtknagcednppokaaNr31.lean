/- lin.Value: the value of a form by values. formula.value. The document's own Value; lin.Same. The document's far: whether a variable's value is too great. -/
import Derived.Test.YtknagcednppokaaNr03
import Derived.Test.YtknagcednppokaaNr04
import Derived.Test.YtknagcednppokaaNr05
set_option linter.unusedVariables false
set_option linter.unusedSimpArgs false
namespace Go.Proofs.Ytknagcednppokaa
open Go.RowKit

/-- The numbers zs lie in memory from a on, in a block below B. -/
def Nums (B : Nat) (w : World) (a : Option Addr) (zs : List Int) : Prop :=
  ∀ i, i < zs.length → ∃ b off, a = some ⟨b, off, none⟩ ∧ b < B ∧ w.cell? ⟨b, off + i, none⟩ = some (.int .i64 (zs.getD i 0))
theorem Nums.mono {B B' : Nat} {w : World} {a : Option Addr} {l : List Int} (h : Nums B w a l) (hb : B ≤ B') : Nums B' w a l := fun i hi => by
  obtain ⟨b, off, ha, hlt, h1⟩ := h i hi
  exact ⟨b, off, ha, Nat.lt_of_lt_of_le hlt hb, h1⟩
theorem Nums.below {B : Nat} {w w' : World} {a : Option Addr} {l : List Int} (h : Nums B w a l) (hb : Below B w w') : Nums B w' a l := fun i hi => by
  obtain ⟨b, off, ha, hlt, h1⟩ := h i hi
  exact ⟨b, off, ha, hlt, by rw [hb.cell (p := ⟨b, _, none⟩) hlt]; exact h1⟩

/-- A variable's value. -/
def valOf (zs : List Int) (v : Int) : Int := if v < zs.length then zs.getD v.toNat 0 else 0

/-- The numbers' own variable: a block that holds the slice. -/
def Held (w : World) (pv : Nat) (a : Option Addr) (n cap : Nat) : Prop := pv < w.heap.size ∧ w.cell? ⟨pv, 0, none⟩ = some (.slice a n cap)

set_option maxHeartbeats 800000 in
theorem valueLit_yes (pv q : Nat) (s v k : Int) (a : Option Addr) (n cap : Nat) (zs : List Int) (w : World) (hn : zs.length = n) (hv : 0 ≤ v) (hne : pv < q) (hh : Held w pv a n cap) (hz : Nums w.heap.size w a zs) (ho : Own w q s)
    (hk : -1073741824 ≤ k ∧ k ≤ 1073741824) (hs : -2305843009213693952 ≤ s ∧ s ≤ 2305843009213693952) (hx : wi (valOf zs v) 16777216 = true) :
    Calls Try.prog 74 #[.agg #[.int .i64 v, .int .i64 k], .pointer (some ⟨pv, 0, none⟩), .pointer (some ⟨q, 0, none⟩)] w fun e w' => e = .returned (.bool true) ∧ Own w' q (s + k * valOf zs v) ∧ Below q w w' := by
  have hwi := fun W => within_any (valOf zs v) 16777216 W (by omega) (by omega)
  rw [hx] at hwi
  have hxb : -16777216 ≤ valOf zs v ∧ valOf zs v ≤ 16777216 := by unfold wi at hx; simpa using hx
  have hmul : -18014398509481984 ≤ k * valOf zs v ∧ k * valOf zs v ≤ 18014398509481984 := by
    have h1 : (k * valOf zs v).natAbs ≤ 1073741824 * 16777216 := by
      rw [Int.natAbs_mul]; exact Nat.mul_le_mul (by omega) (by omega)
    omega
  have hq := ho
  obtain ⟨h1, h2, h3⟩ := ho
  obtain ⟨g1, g2⟩ := hh
  by_cases hlt : v < n
  · obtain ⟨i, rfl⟩ := Int.eq_ofNat_of_zero_le hv
    obtain ⟨b, off, rfl, hb, hc⟩ := hz i (by omega)
    have hx2 : valOf zs (i : Int) = zs.getD i 0 := by unfold valOf; rw [if_pos (by omega)]; simp
    rw [hx2] at hwi hxb hmul hx ⊢
    generalize zs.getD i 0 = x at hwi hxb hmul hx hc ⊢
    have O1 := Lib.hid ((hq.set (s + k * x)).alloc (.cells #[.int .i64 (i : Int), .int .i64 k] 51))
    have B1 := Lib.hid (((Below.refl q w).setCell (p := ⟨q, 0, none⟩) (Nat.le_refl _) (.int .i64 (s + k * x))).alloc (Nat.le_of_lt (hq.set (s + k * x)).1) (.cells #[.int .i64 (i : Int), .int .i64 k] 51))
    clear hz hn hx2 hx hq
    go_enter Try.func74, Try.ntmps74
    go_wp2_with (go_at_call 46; refine (hwi _).mono ?_; rintro e w' ⟨rfl, rfl⟩)
    go_ret
    exact ⟨rfl, O1.out, B1.out⟩
  · have hx2 : valOf zs v = 0 := by unfold valOf; rw [if_neg (by omega)]
    rw [hx2] at hwi hxb hmul hx ⊢
    rw [Int.mul_zero, Int.add_zero]
    have O1 := Lib.hid ((hq.set s).alloc (.cells #[.int .i64 v, .int .i64 k] 51))
    have B1 := Lib.hid (((Below.refl q w).setCell (p := ⟨q, 0, none⟩) (Nat.le_refl _) (.int .i64 s)).alloc (Nat.le_of_lt (hq.set s).1) (.cells #[.int .i64 v, .int .i64 k] 51))
    clear hz hn hx2 hx hq
    go_enter Try.func74, Try.ntmps74
    go_wp2_with (go_at_call 46; refine (hwi _).mono ?_; rintro e w' ⟨rfl, rfl⟩)
    go_ret
    exact ⟨rfl, O1.out, B1.out⟩

set_option maxHeartbeats 800000 in
theorem valueLit_any (pv q : Nat) (s v k : Int) (a : Option Addr) (n cap : Nat) (zs : List Int) (w : World) (hn : zs.length = n) (hv : 0 ≤ v) (hne : pv < q) (hh : Held w pv a n cap) (hz : Nums w.heap.size w a zs) (ho : Own w q s) :
    Calls Try.prog 74 #[.agg #[.int .i64 v, .int .i64 k], .pointer (some ⟨pv, 0, none⟩), .pointer (some ⟨q, 0, none⟩)] w fun e w' => e = .returned (.bool (wi (valOf zs v) 16777216)) ∧ (∃ s', Own w' q s') ∧ Below q w w' := by
  have hwi := fun W => within_any (valOf zs v) 16777216 W (by omega) (by omega)
  have hq := ho
  obtain ⟨h1, h2, h3⟩ := ho
  obtain ⟨g1, g2⟩ := hh
  have O1 : Hid (∀ y x, Own ((w.setCell ⟨q, 0, none⟩ (.int .i64 y)).alloc (.cells #[.int .i64 x, .int .i64 k] 51)) q y ∧ Below q w ((w.setCell ⟨q, 0, none⟩ (.int .i64 y)).alloc (.cells #[.int .i64 x, .int .i64 k] 51))) :=
    fun y x => ⟨(hq.set y).alloc _, (((Below.refl q w).setCell (p := ⟨q, 0, none⟩) (Nat.le_refl _) (.int .i64 y)).alloc (Nat.le_of_lt (hq.set y).1) _)⟩
  by_cases hlt : v < n
  · obtain ⟨i, rfl⟩ := Int.eq_ofNat_of_zero_le hv
    obtain ⟨b, off, rfl, hb, hc⟩ := hz i (by omega)
    have hx2 : valOf zs (i : Int) = zs.getD i 0 := by unfold valOf; rw [if_pos (by omega)]; simp
    rw [hx2] at hwi ⊢
    generalize zs.getD i 0 = x at hwi hc ⊢
    clear hz hn hx2 hq
    go_enter Try.func74, Try.ntmps74
    go_wp2_with (go_at_call 46; refine (hwi _).mono ?_; rintro e w' ⟨rfl, rfl⟩)
    go_ret
    exact ⟨rfl, ⟨_, (O1.out _ _).1⟩, (O1.out _ _).2⟩
  · have hx2 : valOf zs v = 0 := by unfold valOf; rw [if_neg (by omega)]
    rw [hx2] at hwi ⊢
    clear hz hn hx2 hq
    go_enter Try.func74, Try.ntmps74
    go_wp2_with (go_at_call 46; refine (hwi _).mono ?_; rintro e w' ⟨rfl, rfl⟩)
    go_ret
    exact ⟨rfl, ⟨_, (O1.out _ _).1⟩, (O1.out _ _).2⟩

/-- A form's value so far. -/
def sAt (c : Int) (l : List (Int × Int)) (zs : List Int) : Nat → Int
  | 0 => c
  | i + 1 => sAt c l zs i + (l.getD i (0, 0)).2 * valOf zs (l.getD i (0, 0)).1
def near (l : List (Int × Int)) (zs : List Int) (i : Nat) : Bool := wi (valOf zs (l.getD i (0, 0)).1) 16777216

theorem sAt_in (c : Int) (l : List (Int × Int)) (zs : List Int) (hc : -1073741824 ≤ c ∧ c ≤ 1073741824) : ∀ i, i ≤ 64 → (∀ j, j < i → -1073741824 ≤ (l.getD j (0, 0)).2 ∧ (l.getD j (0, 0)).2 ≤ 1073741824) → (∀ j, j < i → near l zs j = true) →
    -(1073741824 + i * 18014398509481984 : Int) ≤ sAt c l zs i ∧ sAt c l zs i ≤ 1073741824 + i * 18014398509481984
  | 0, _, _, _ => by unfold sAt; omega
  | i + 1, hi, hk, hx => by
    have h1 := sAt_in c l zs hc i (by omega) (fun j hj => hk j (by omega)) (fun j hj => hx j (by omega))
    have h2 := hk i (by omega)
    have h3 := hx i (by omega)
    unfold near wi at h3
    have h3 : -16777216 ≤ valOf zs (l.getD i (0, 0)).1 ∧ valOf zs (l.getD i (0, 0)).1 ≤ 16777216 := by simpa using h3
    have h4 : ((l.getD i (0, 0)).2 * valOf zs (l.getD i (0, 0)).1).natAbs ≤ 1073741824 * 16777216 := by
      rw [Int.natAbs_mul]; exact Nat.mul_le_mul (by omega) (by omega)
    unfold sAt
    omega

theorem Try.enters35 : ∀ args w, (callFunc 74 args).run Try.prog w = .ok (.enter 74 args) w := fun _ _ => by kernel_rfl

/-- What the closure has of the world. -/
def VInv (pv q : Nat) (a2 : Option Addr) (n2 cap2 : Nat) (P : Int → Prop) (W : World) : Prop := Held W pv a2 n2 cap2 ∧ ∃ s, P s ∧ Own W q s
theorem VInv.alloc {pv q : Nat} {a2 : Option Addr} {n2 cap2 : Nat} {P : Int → Prop} {W : World} (h : VInv pv q a2 n2 cap2 P W) (o : Obj) : VInv pv q a2 n2 cap2 P (W.alloc o) := by
  obtain ⟨⟨h1, h2⟩, s, hp, ho⟩ := h
  have hb := (Below.refl W.heap.size W).alloc (Nat.le_refl _) o
  exact ⟨⟨Nat.lt_of_lt_of_le h1 hb.size, by rw [hb.cell (p := ⟨pv, 0, none⟩) h1]; exact h2⟩, s, hp, ho.alloc o⟩
theorem Held.below {w w' : World} {pv q : Nat} {a : Option Addr} {n cap : Nat} (h : Held w pv a n cap) (hq : pv < q) (hb : Below q w w') : Held w' pv a n cap :=
  ⟨Nat.lt_of_lt_of_le h.1 hb.size, by rw [hb.cell (p := ⟨pv, 0, none⟩) hq]; exact h.2⟩

theorem valueAll_yes (pv q : Nat) (c : Int) (a : Option Addr) (n cap : Nat) (l : List (Int × Int)) (a2 : Option Addr) (n2 cap2 : Nat) (zs : List Int) (w : World) (B : Nat) (hB : B ≤ pv) (hpq : pv < q) (hn : l.length = n) (hm : n ≤ 64) (hn2 : zs.length = n2)
    (hl : Lies B w a l) (hz : Nums B w a2 zs) (hh : Held w pv a2 n2 cap2) (ho : Own w q c) (hc : -1073741824 ≤ c ∧ c ≤ 1073741824)
    (hk : ∀ j, j < n → 0 ≤ (l.getD j (0, 0)).1 ∧ -1073741824 ≤ (l.getD j (0, 0)).2 ∧ (l.getD j (0, 0)).2 ≤ 1073741824) (h : ∀ i, i < n → near l zs i = true) :
    Calls Try.prog 47 #[.slice a n cap, .func (.func 74) #[] #[.pointer (some ⟨pv, 0, none⟩), .pointer (some ⟨q, 0, none⟩)]] w fun e w' => e = .returned (.bool true) ∧ Own w' q (sAt c l zs n) ∧ Below B w w' := by
  have hbs : B ≤ w.heap.size := by have := hh.1; omega
  refine (all_yes 74 #[.pointer (some ⟨pv, 0, none⟩), .pointer (some ⟨q, 0, none⟩)] a n cap l w (fun i W => VInv pv q a2 n2 cap2 (· = sAt c l zs i) W) (near l zs) Try.enters35 hn (by omega) B hbs hl ⟨hh, c, rfl, ho⟩
    (fun _ _ o h => h.alloc o) ?_ h).mono ?_
  · intro i W hi hb hI
    obtain ⟨hhW, s, rfl, hoW⟩ := hI
    have hs := sAt_in c l zs hc i (by omega) (fun j hj => (hk j (by omega)).2) (fun j hj => h j (by omega))
    have hki := hk i hi
    refine (valueLit_yes pv q _ (l.getD i (0, 0)).1 (l.getD i (0, 0)).2 a2 n2 cap2 zs W hn2 hki.1 hpq hhW ((hz.below hb).mono (by have := hb.size; omega)) hoW hki.2 (by omega) (h i hi)).mono ?_
    rintro e w' ⟨he, ho', hb'⟩
    exact ⟨by rw [h i hi]; exact he, ⟨hhW.below hpq hb', _, rfl, ho'⟩, hb'.mono (by omega)⟩
  · rintro e w' ⟨he, ⟨_, s, rfl, ho'⟩, hb⟩
    exact ⟨he, ho', hb⟩

theorem valueAll_no (pv q : Nat) (c : Int) (a : Option Addr) (n cap : Nat) (l : List (Int × Int)) (a2 : Option Addr) (n2 cap2 : Nat) (zs : List Int) (w : World) (B : Nat) (hB : B ≤ pv) (hpq : pv < q) (hn : l.length = n) (hm : n ≤ 64) (hn2 : zs.length = n2)
    (hl : Lies B w a l) (hz : Nums B w a2 zs) (hh : Held w pv a2 n2 cap2) (ho : Own w q c)
    (hk : ∀ j, j < n → 0 ≤ (l.getD j (0, 0)).1) (h : ¬ ∀ i, i < n → near l zs i = true) :
    Calls Try.prog 47 #[.slice a n cap, .func (.func 74) #[] #[.pointer (some ⟨pv, 0, none⟩), .pointer (some ⟨q, 0, none⟩)]] w fun e w' => e = .returned (.bool false) ∧ Below B w w' := by
  have hbs : B ≤ w.heap.size := by have := hh.1; omega
  obtain ⟨j, hj, h1, h2⟩ := first_no _ _ h
  refine (all_no 74 #[.pointer (some ⟨pv, 0, none⟩), .pointer (some ⟨q, 0, none⟩)] a n cap l w (fun i W => VInv pv q a2 n2 cap2 (fun _ => True) W) (near l zs) Try.enters35 hn (by omega) B hbs hl ⟨hh, c, trivial, ho⟩
    (fun _ _ o h => h.alloc o) ?_ j hj h1 h2).mono fun _ _ ⟨he, _, hb⟩ => ⟨he, hb⟩
  intro i W hi hb hI
  obtain ⟨hhW, s, _, hoW⟩ := hI
  refine (valueLit_any pv q s (l.getD i (0, 0)).1 (l.getD i (0, 0)).2 a2 n2 cap2 zs W hn2 (hk i hi) hpq hhW ((hz.below hb).mono (by have := hb.size; omega)) hoW).mono ?_
  rintro e w' ⟨he, ⟨s', ho'⟩, hb'⟩
  exact ⟨he, ⟨hhW.below hpq hb', s', trivial, ho'⟩, hb'.mono (by omega)⟩

set_option maxHeartbeats 1000000 in
theorem value_form (c : Int) (a : Option Addr) (n cap : Nat) (l : List (Int × Int)) (a2 : Option Addr) (n2 cap2 : Nat) (w : World) (hn : l.length = n) (hm : n ≤ 9223372036854775807) (hl : Lies w.heap.size w a l) (hs : snd c l = false) :
    Calls Try.prog 65 #[.agg #[.int .i64 c, .slice a n cap], .slice a2 n2 cap2] w fun e w' => e = .returned (.tuple #[.int .i64 0, .iface 53 (.int .i64 5)]) ∧ Below w.heap.size w w' := by
  have hb0 : Below w.heap.size w ((w.alloc (.cells #[.int .i64 c, .slice a n cap] 24)).alloc (.cells #[.slice a2 n2 cap2] 41)) := ((Below.refl _ w).alloc (Nat.le_refl _) _).alloc (by simp) _
  have hck := check_no c a n cap l _ hn hm ((hl.below hb0).mono hb0.size) hs
  have HB := Lib.hid hb0
  clear hn hs hl hb0
  go_enter Try.func65, Try.ntmps65
  go_wp2_with (go_at_call 24; refine hck.mono ?_; rintro e w1 ⟨rfl, hb1⟩)
  go_ret2
  exact ⟨rfl, HB.out.trans (hb1.mono (by simp; omega))⟩

set_option maxHeartbeats 1000000 in
theorem value_ok (c : Int) (a : Option Addr) (n cap : Nat) (l : List (Int × Int)) (a2 : Option Addr) (n2 cap2 : Nat) (zs : List Int) (w : World) (hn : l.length = n) (hn2 : zs.length = n2) (hl : Lies w.heap.size w a l) (hz : Nums w.heap.size w a2 zs) (hs : snd c l = true)
    (h : ∀ i, i < n → near l zs i = true) :
    Calls Try.prog 65 #[.agg #[.int .i64 c, .slice a n cap], .slice a2 n2 cap2] w fun e w' => e = .returned (.tuple #[.int .i64 (sAt c l zs n), .nilIface]) ∧ Below w.heap.size w w' := by
  obtain ⟨hwc, h64, hall⟩ := snd_iff.1 hs
  have hb0 : Below w.heap.size w ((w.alloc (.cells #[.int .i64 c, .slice a n cap] 24)).alloc (.cells #[.slice a2 n2 cap2] 41)) := ((Below.refl _ w).alloc (Nat.le_refl _) _).alloc (by simp) _
  have hck := check_yes c a n cap l _ hn ((hl.below hb0).mono hb0.size) hs
  have hcb : -1073741824 ≤ c ∧ c ≤ 1073741824 := by unfold wi at hwc; simpa using hwc
  have hga := fun (W : World) (q : Nat) (hq : w.heap.size + 1 < q) (hb : Below w.heap.size w W) (hh : Held W (w.heap.size + 1) a2 n2 cap2) (ho : Own W q c) =>
    valueAll_yes (w.heap.size + 1) q c a n cap l a2 n2 cap2 zs W w.heap.size (by omega) hq hn (by omega) hn2 (hl.below hb) (hz.below hb) hh ho hcb (fun j hj => by have := okAt_in (hall j (by omega)); omega) h
  generalize sAt c l zs n = r at hga ⊢
  have HG := Lib.hid hga
  have HB := Lib.hid hb0
  clear hn hs hall hl hz hga hb0 hwc h64 hcb h
  go_enter Try.func65, Try.ntmps65
  go_wp2_with (go_at_call 24; refine hck.mono ?_; rintro e w1 ⟨rfl, hb1⟩; obtain ⟨hc1, hf1⟩ := bcell hb1; have hz : w.heap.size + 1 < w1.heap.size := (by have := hb1.size; simp at this; omega); have hz0 : w.heap.size < w1.heap.size := (by omega); clear hck)
  have hb2 : Below w.heap.size w (w1.alloc (.cells #[.int .i64 c] 3)) := (HB.out.trans (hb1.mono (by simp; omega))).alloc (by omega) _
  have hh : Held (w1.alloc (.cells #[.int .i64 c] 3)) (w.heap.size + 1) a2 n2 cap2 := ⟨by simp; omega, by
    have hbb := (Below.refl w1.heap.size w1).alloc (Nat.le_refl _) (.cells #[.int .i64 c] 3)
    rw [hbb.cell (p := ⟨w.heap.size + 1, 0, none⟩) hz, hc1 _ _ (by simp)]
    simp⟩
  refine (HG.out _ w1.heap.size hz hb2 hh (Own.new _ _ _)).mono ?_
  rintro e w2 ⟨rfl, ho, hb3⟩
  obtain ⟨ho1, ho2, ho3⟩ := ho
  have B3 := Lib.hid (hb2.trans hb3)
  clear hb3 hb2 hh hc1 hf1
  go_wp2_with fail
  go_ret2
  exact ⟨rfl, B3.out⟩

set_option maxHeartbeats 1000000 in
theorem value_far (c : Int) (a : Option Addr) (n cap : Nat) (l : List (Int × Int)) (a2 : Option Addr) (n2 cap2 : Nat) (zs : List Int) (w : World) (hn : l.length = n) (hn2 : zs.length = n2) (hl : Lies w.heap.size w a l) (hz : Nums w.heap.size w a2 zs) (hs : snd c l = true)
    (h : ¬ ∀ i, i < n → near l zs i = true) :
    Calls Try.prog 65 #[.agg #[.int .i64 c, .slice a n cap], .slice a2 n2 cap2] w fun e w' => e = .returned (.tuple #[.int .i64 0, .iface 53 (.int .i64 1)]) ∧ Below w.heap.size w w' := by
  obtain ⟨_, h64, hall⟩ := snd_iff.1 hs
  have hb0 : Below w.heap.size w ((w.alloc (.cells #[.int .i64 c, .slice a n cap] 24)).alloc (.cells #[.slice a2 n2 cap2] 41)) := ((Below.refl _ w).alloc (Nat.le_refl _) _).alloc (by simp) _
  have hck := check_yes c a n cap l _ hn ((hl.below hb0).mono hb0.size) hs
  have hga := fun (W : World) (q : Nat) (hq : w.heap.size + 1 < q) (hb : Below w.heap.size w W) (hh : Held W (w.heap.size + 1) a2 n2 cap2) (ho : Own W q c) =>
    valueAll_no (w.heap.size + 1) q c a n cap l a2 n2 cap2 zs W w.heap.size (by omega) hq hn (by omega) hn2 (hl.below hb) (hz.below hb) hh ho (fun j hj => by have := okAt_in (hall j (by omega)); omega) h
  have HG := Lib.hid hga
  have HB := Lib.hid hb0
  clear hn hs hall hl hz hga hb0 h64 h
  go_enter Try.func65, Try.ntmps65
  go_wp2_with (go_at_call 24; refine hck.mono ?_; rintro e w1 ⟨rfl, hb1⟩; obtain ⟨hc1, hf1⟩ := bcell hb1; have hz : w.heap.size + 1 < w1.heap.size := (by have := hb1.size; simp at this; omega); have hz0 : w.heap.size < w1.heap.size := (by omega); clear hck)
  have hb2 : Below w.heap.size w (w1.alloc (.cells #[.int .i64 c] 3)) := (HB.out.trans (hb1.mono (by simp; omega))).alloc (by omega) _
  have hh : Held (w1.alloc (.cells #[.int .i64 c] 3)) (w.heap.size + 1) a2 n2 cap2 := ⟨by simp; omega, by
    have hbb := (Below.refl w1.heap.size w1).alloc (Nat.le_refl _) (.cells #[.int .i64 c] 3)
    rw [hbb.cell (p := ⟨w.heap.size + 1, 0, none⟩) hz, hc1 _ _ (by simp)]
    simp⟩
  refine (HG.out _ w1.heap.size hz hb2 hh (Own.new _ _ _)).mono ?_
  rintro e w2 ⟨rfl, hb3⟩
  have B3 := Lib.hid (hb2.trans hb3)
  clear hb3 hb2 hh hc1 hf1
  go_wp2_with fail
  go_ret2
  exact ⟨rfl, B3.out⟩
end Go.Proofs.Ytknagcednppokaa

namespace Go.Proofs.Ytknagcednppokaa
open Go.RowKit

def vStep (b : Bool) (p q : Bool × Bool) : Bool × Bool := (if (q.1 != b) = true then !b else p.1, p.2 && q.2)
/-- A formula's value, and whether the values of its variables may be. -/
def vOf (zs : List Int) : Nat → FT → Bool × Bool
  | 0, _ => (false, false)
  | n + 1, f =>
    if f.kind = 0 then (true, true)
    else if f.kind = 1 then (false, true)
    else if f.kind = 2 ∨ f.kind = 3 then
      if ∀ i, i < f.t.length → near f.t zs i = true then (decide (sAt f.c f.t zs f.t.length = 0) || (decide (sAt f.c f.t zs f.t.length < 0) && decide (f.kind = 2)), true) else (true, false)
    else if f.kind = 4 then (!(vOf zs n (f.ks.getD 0 default)).1, (vOf zs n (f.ks.getD 0 default)).2)
    else (f.ks.map (vOf zs n)).foldl (vStep (f.kind == 5)) (f.kind == 5, true)
def vTo (zs : List Int) (n : Nat) (b : Bool) (ks : List FT) (k : Nat) : Bool × Bool := ((ks.take k).map (vOf zs n)).foldl (vStep b) (b, true)
theorem vTo_succ (zs : List Int) (n : Nat) (b : Bool) (ks : List FT) (k : Nat) (h : k < ks.length) : vTo zs n b ks (k + 1) = vStep b (vTo zs n b ks k) (vOf zs n (ks.getD k default)) := by
  unfold vTo
  rw [List.take_succ_eq_append_getElem h, List.map_append, List.foldl_append]
  simp [List.getD_eq_getElem?_getD, h]
theorem ownF_form {f : FT} (h : ownF f = true) (hk : f.kind = 2 ∨ f.kind = 3) : snd f.c f.t = true := by
  unfold ownF ownV at h
  rw [if_neg (by omega), if_pos hk] at h
  simp at h
  exact h.1
theorem ownF_not {f : FT} (h : ownF f = true) (hk : f.kind = 4) : f.ks.length = 1 := by
  unfold ownF ownV at h
  rw [if_neg (by omega), if_neg (by omega), if_pos hk] at h
  simp at h
  omega
theorem ownF_kind {f : FT} (h : ownF f = true) : f.kind = 0 ∨ f.kind = 1 ∨ (f.kind = 2 ∨ f.kind = 3) ∨ f.kind = 4 ∨ f.kind = 5 ∨ f.kind = 6 := by
  by_cases hk : f.kind = 0 ∨ f.kind = 1 ∨ (f.kind = 2 ∨ f.kind = 3) ∨ f.kind = 4 ∨ f.kind = 5 ∨ f.kind = 6
  · exact hk
  · unfold ownF ownV at h
    rw [if_neg (by omega), if_neg (by omega), if_neg (by omega), if_neg (by omega)] at h
    cases h
theorem sndF_split {n : Nat} {f : FT} (h : sndF (n + 1) f = true) : ownF f = true ∧ ∀ i, i < f.ks.length → sndF n (f.ks.getD i default) = true := by
  have : (ownF f && decide (∀ i, i < f.ks.length → sndF n (f.ks.getD i default) = true)) = true := h
  rw [Bool.and_eq_true] at this
  exact ⟨this.1, of_decide_eq_true this.2⟩

/-- What formula.value answers. -/
def ValEnd (B : Nat) (p : Bool × Bool) (w : World) (e : Ending) (w' : World) : Prop := e = .returned (.tuple #[.bool p.1, .bool p.2]) ∧ Below B w w'
end Go.Proofs.Ytknagcednppokaa

namespace Go.Proofs.Ytknagcednppokaa
open Go.RowKit

set_option maxHeartbeats 400000 in
theorem of_any (v : Int) (a : Option Addr) (n cap : Nat) (zs : List Int) (w : World) (hn : zs.length = n) (hm : n ≤ 9223372036854775807) (hv : 0 ≤ v) (hz : Nums w.heap.size w a zs) :
    Calls Try.prog 45 #[.slice a n cap, .int .i64 v] w fun e w' => e = .returned (.int .i64 (valOf zs v)) ∧ w = w' := by
  by_cases hlt : v < n
  · obtain ⟨i, rfl⟩ := Int.eq_ofNat_of_zero_le hv
    obtain ⟨b, off, rfl, hb, hc⟩ := hz i (by omega)
    have hx2 : valOf zs (i : Int) = zs.getD i 0 := by unfold valOf; rw [if_pos (by omega)]; simp
    rw [hx2]
    generalize zs.getD i 0 = x at hc ⊢
    clear hz hn hx2
    go_enter Try.func45, Try.ntmps45
    go_wp2
    go_ret
    exact ⟨rfl, rfl⟩
  · have hx2 : valOf zs v = 0 := by unfold valOf; rw [if_neg (by omega)]
    rw [hx2]
    clear hz hn hx2
    go_enter Try.func45, Try.ntmps45
    go_wp2
    go_ret
    exact ⟨rfl, rfl⟩

theorem sAt_eq (c : Int) (l : List (Int × Int)) (zs : List Int) (k : Nat) : sAt c l zs (k + 1) = sAt c l zs k + valOf zs (l.getD k (0, 0)).1 * (l.getD k (0, 0)).2 := by
  show sAt c l zs k + _ * _ = _
  rw [Int.mul_comm]

set_option maxHeartbeats 1000000 in
theorem rvalue_form (c : Int) (a : Option Addr) (n cap : Nat) (l : List (Int × Int)) (a2 : Option Addr) (n2 cap2 : Nat) (w : World) (hn : l.length = n) (hm : n ≤ 9223372036854775807) (hl : Lies w.heap.size w a l) (hs : snd c l = false) :
    Calls Try.prog 21 #[.agg #[.int .i64 c, .slice a n cap], .slice a2 n2 cap2] w fun e w' => e = .returned (.tuple #[.int .i64 0, .int .i64 5]) ∧ Below w.heap.size w w' := by
  have hb0 : Below w.heap.size w (w.alloc (.cells #[.int .i64 c, .slice a n cap] 24)) := (Below.refl _ w).alloc (Nat.le_refl _) _
  have hck := rcheck_any c a n cap l _ hn hm ((hl.below hb0).mono hb0.size)
  rw [hs] at hck
  have HB := Lib.hid hb0
  clear hn hs hl hb0
  go_enter Try.func21, Try.ntmps21
  go_wp2_with (go_at_call 28; refine hck.mono ?_; rintro e w1 ⟨rfl, hb1⟩)
  go_ret2
  exact ⟨rfl, HB.out.trans (hb1.mono (by simp))⟩

theorem val_mul {x k : Int} (hx : -16777216 ≤ x ∧ x ≤ 16777216) (hk : -1073741824 ≤ k ∧ k ≤ 1073741824) : -18014398509481984 ≤ x * k ∧ x * k ≤ 18014398509481984 := by
  have h1 : (x * k).natAbs ≤ 16777216 * 1073741824 := by
    rw [Int.natAbs_mul]; exact Nat.mul_le_mul (by omega) (by omega)
  omega

set_option maxHeartbeats 1600000 in
theorem rvalue_any (c : Int) (a : Option Addr) (n cap : Nat) (l : List (Int × Int)) (a2 : Option Addr) (n2 cap2 : Nat) (zs : List Int) (w : World) (hn : l.length = n) (hn2 : zs.length = n2) (hm2 : n2 ≤ 9223372036854775807) (hl : Lies w.heap.size w a l) (hz : Nums w.heap.size w a2 zs) (hs : snd c l = true)
    (v r : Int) (hr : (v = sAt c l zs n ∧ r = 0 ∧ ∀ i, i < n → near l zs i = true) ∨ (v = 0 ∧ r = 1 ∧ ¬ ∀ i, i < n → near l zs i = true)) :
    Calls Try.prog 21 #[.agg #[.int .i64 c, .slice a n cap], .slice a2 n2 cap2] w fun e w' => e = .returned (.tuple #[.int .i64 v, .int .i64 r]) ∧ Below w.heap.size w w' := by
  obtain ⟨hwc, h64, hall⟩ := snd_iff.1 hs
  have hcb : -1073741824 ≤ c ∧ c ≤ 1073741824 := by unfold wi at hwc; simpa using hwc
  have hb0 : Below w.heap.size w (w.alloc (.cells #[.int .i64 c, .slice a n cap] 24)) := (Below.refl _ w).alloc (Nat.le_refl _) _
  have hck := rcheck_any c a n cap l _ hn (by omega) ((hl.below hb0).mono hb0.size)
  rw [hs] at hck
  have hn64 : n ≤ 64 := by omega
  have HB := Lib.hid hb0
  have HN := Lib.hid hn
  have HN2 := Lib.hid hn2
  have HL := Lib.hid hl
  have HZ := Lib.hid hz
  have HR := Lib.hid hr
  have HK := Lib.hid (fun j (hj : j < n) => okAt_in (hall j (by omega)))
  have HSI := Lib.hid (fun k (hk : k ≤ n) hx => sAt_in c l zs hcb k (by omega) (fun j hj => (okAt_in (hall j (by omega))).2.2.2.2) hx)
  clear hn hn2 hl hz hr hall hwc hb0 hs h64 hcb
  go_enter Try.func21, Try.ntmps21
  go_wp2_with (go_at_call 28; refine hck.mono ?_; rintro e w1 ⟨rfl, hb1⟩; obtain ⟨hc1, hf1⟩ := bcell hb1; have hz1 : w.heap.size < w1.heap.size := (by have := hb1.size; simp at this; omega))
  have B1 := Lib.hid (HB.out.trans (hb1.mono (by simp)))
  have a0 : w1.cell? ⟨w.heap.size, 1, none⟩ = some (.slice a n cap) := by rw [hc1 _ _ (by simp)]; simp
  clear hc1 hf1 hb1 hck
  go_loop [7, 8, 9] (fun s i _ => ∃ k : Nat, k ≤ n ∧ i = .int .i64 k ∧ s = .int .i64 (sAt c l zs k) ∧ Hid (∀ j, j < k → near l zs j = true)) (fun _ i _ => n - (intOf i).toNat)
  case atStart => exact ⟨0, Nat.zero_le _, rfl, rfl, fun j hj => absurd hj (Nat.not_lt_zero j)⟩
  case round =>
    obtain ⟨k, hk, rfl, rfl, hok⟩ := hrel
    by_cases hlt : k < n
    · obtain ⟨b, off, rfl, hblt, c1, c2⟩ := (HL.out.below B1.out) k (by rw [HN.out]; exact hlt)
      have hkk := HK.out k hlt
      have hof := of_any (l.getD k (0, 0)).1 a2 n2 cap2 zs w1 HN2.out hm2 hkk.2.2.1 ((HZ.out.below B1.out).mono B1.out.size)
      have hss := HSI.out k hk (fun j hj => hok.out j hj)
      have hst := sAt_eq c l zs k
      by_cases hx : near l zs k = true
      · have hok2 : Hid (∀ j, j < k + 1 → near l zs j = true) := fun j hj => by
          by_cases ej : j = k
          · rw [ej]; exact hx
          · exact hok.out j (by omega)
        have hxb : -16777216 ≤ valOf zs (l.getD k (0, 0)).1 ∧ valOf zs (l.getD k (0, 0)).1 ≤ 16777216 := by unfold near wi at hx; simpa using hx
        have hm := val_mul hxb hkk.2.2.2.2
        have HST := Lib.hid hst
        clear hst hx hkk
        generalize hX : valOf zs (l.getD k (0, 0)).1 = X at hof hxb hm HST
        generalize (l.getD k (0, 0)).1 = v at c1 hof
        generalize (l.getD k (0, 0)).2 = u at c2 hm HST
        generalize hS : sAt c l zs k = S at hss HST
        clear hX hS
        go_wp2_with (go_at_call 45; refine hof.mono ?_; rintro e w' ⟨rfl, rfl⟩)
        go_round
        case rel => exact ⟨k + 1, by omega, by go_num, by rw [HST.out], hok2⟩
        case measure => simp [intOf]; omega
      · have HF : Hid (v = 0 ∧ r = 1) := by
          rcases HR.out with ⟨_, _, h3⟩ | ⟨h1, h2, _⟩
          · exact absurd (h3 k hlt) hx
          · exact ⟨h1, h2⟩
        have hxb : ¬ (-16777216 ≤ valOf zs (l.getD k (0, 0)).1 ∧ valOf zs (l.getD k (0, 0)).1 ≤ 16777216) := fun h => hx (by unfold near; exact wi_t h)
        clear hst hx hkk
        generalize hX : valOf zs (l.getD k (0, 0)).1 = X at hof hxb
        generalize (l.getD k (0, 0)).1 = v at c1 hof
        clear hX
        obtain ⟨rfl, rfl⟩ := HF.out
        by_cases hlo : X < -16777216
        · go_wp2_with (go_at_call 45; refine hof.mono ?_; rintro e w' ⟨rfl, rfl⟩)
          go_ret2
          exact ⟨rfl, B1.out⟩
        · have hhi : 16777216 < X := by omega
          go_wp2_with (go_at_call 45; refine hof.mono ?_; rintro e w' ⟨rfl, rfl⟩)
          go_ret2
          exact ⟨rfl, B1.out⟩
    · have hkn : n = k := by omega
      have HF : Hid (v = sAt c l zs k ∧ r = 0) := by
        rcases HR.out with ⟨h1, h2, _⟩ | ⟨_, _, h3⟩
        · rw [hkn] at h1; exact ⟨h1, h2⟩
        · exact absurd (fun i hi => hok.out i (by omega)) h3
      clear hkn HR
      obtain ⟨rfl, rfl⟩ := HF.out
      clear HF
      go_wp2
      go_ret2
      exact ⟨rfl, B1.out⟩

end Go.Proofs.Ytknagcednppokaa

namespace Go.Proofs.Ytknagcednppokaa
open Go.RowKit

/-- Has one of its variables a value that is too great? -/
def farF (zs : List Int) : Nat → FT → Bool
  | 0, _ => false
  | n + 1, f => decide (∃ i, i < f.t.length ∧ near f.t zs i = false) || decide (∃ i, i < f.ks.length ∧ farF zs n (f.ks.getD i default) = true)
theorem farF_no {zs : List Int} {n : Nat} {f : FT} (h1 : ∀ i, i < f.t.length → near f.t zs i = true) (h2 : ∀ i, i < f.ks.length → farF zs n (f.ks.getD i default) = false) : farF zs (n + 1) f = false := by
  show (decide _ || decide _) = false
  rw [decide_eq_false, decide_eq_false]
  · rfl
  · rintro ⟨i, hi, h⟩
    rw [h2 i hi] at h; cases h
  · rintro ⟨i, hi, h⟩
    rw [h1 i hi] at h; cases h
theorem farF_yes1 {zs : List Int} {n : Nat} {f : FT} {i : Nat} (hi : i < f.t.length) (h : near f.t zs i = false) : farF zs (n + 1) f = true := by
  show (decide _ || decide _) = true
  rw [decide_eq_true ⟨i, hi, h⟩, Bool.true_or]
theorem farF_yes2 {zs : List Int} {n : Nat} {f : FT} {i : Nat} (hi : i < f.ks.length) (h : farF zs n (f.ks.getD i default) = true) : farF zs (n + 1) f = true := by
  show (decide _ || decide _) = true
  rw [decide_eq_true (p := ∃ i, i < f.ks.length ∧ farF zs n (f.ks.getD i default) = true) ⟨i, hi, h⟩, Bool.or_true]
/-- What the terms of a sound formula are. -/
theorem ownF_terms {f : FT} (h : ownF f = true) : f.t.length = 0 ∨ ((f.kind = 2 ∨ f.kind = 3) ∧ snd f.c f.t = true) := by
  by_cases hk : f.kind = 2 ∨ f.kind = 3
  · exact .inr ⟨hk, ownF_form h hk⟩
  · left
    unfold ownF ownV at h
    by_cases h0 : f.kind = 0 ∨ f.kind = 1
    · rw [if_pos h0] at h
      simp at h
      simp [h.1.2]
    · rw [if_neg h0, if_neg hk] at h
      by_cases h4 : f.kind = 4
      · rw [if_pos h4] at h
        simp at h
        simp [h.1.2]
      · rw [if_neg h4] at h
        split at h
        · simp at h
          simp [h.2]
        · cases h
theorem ownF_vars {f : FT} (h : ownF f = true) : ∀ i, i < f.t.length → 0 ≤ (f.t.getD i (0, 0)).1 := by
  intro i hi
  rcases ownF_terms h with h0 | ⟨_, hs⟩
  · omega
  · exact (okAt_in ((snd_iff.1 hs).2.2 i hi)).2.2.1

end Go.Proofs.Ytknagcednppokaa
