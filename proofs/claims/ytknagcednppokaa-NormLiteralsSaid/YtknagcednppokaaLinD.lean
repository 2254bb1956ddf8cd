/- The contracts of lin.Check and lin.Gcd. -/
import Derived.Test.YtknagcednppokaaLinC
namespace Go.Proofs.Ytknagcednppokaa
open Go.RowKit

def lastAt (l : List (Int × Int)) (i : Nat) : Int := if i = 0 then -1 else (l.getD (i - 1) (0, 0)).1
def okAt (l : List (Int × Int)) (i : Nat) : Bool := chk (lastAt l i) (l.getD i (0, 0)).1 (l.getD i (0, 0)).2
/-- A form is sound. -/
def snd (c : Int) (l : List (Int × Int)) : Bool := wi c 1073741824 && (decide (l.length ≤ 64) && decide (∀ i, i < l.length → okAt l i = true))

theorem lastAt_zero (l : List (Int × Int)) : lastAt l 0 = -1 := rfl
theorem lastAt_succ (l : List (Int × Int)) (i : Nat) : lastAt l (i + 1) = (l.getD i (0, 0)).1 := by unfold lastAt; rw [if_neg (by omega)]; rfl

theorem snd_iff {c : Int} {l : List (Int × Int)} : snd c l = true ↔ wi c 1073741824 = true ∧ l.length ≤ 64 ∧ ∀ i, i < l.length → okAt l i = true := by
  unfold snd; simp [Bool.and_eq_true]
/-- The first that isn't so. -/
theorem first_no (r : Nat → Bool) : ∀ n, ¬ (∀ i, i < n → r i = true) → ∃ j, j < n ∧ (∀ i, i < j → r i = true) ∧ r j = false
  | 0, h => absurd (fun i hi => absurd hi (Nat.not_lt_zero i)) h
  | n + 1, h => by
    by_cases hn : ∀ i, i < n → r i = true
    · refine ⟨n, Nat.lt_succ_self n, hn, ?_⟩
      cases hr : r n with
      | false => rfl
      | true => exact absurd (fun i hi => by
          by_cases e : i = n
          · rw [e]; exact hr
          · exact hn i (by omega)) h
    · obtain ⟨j, hj, h1, h2⟩ := first_no r n hn
      exact ⟨j, by omega, h1, h2⟩

theorem Try.enters25 : ∀ args w, (callFunc 48 args).run Try.prog w = .ok (.enter 48 args) w := fun _ _ => by kernel_rfl

theorem Own.new (w : World) (t : TypeId) (x : Int) : Own (w.alloc (.cells #[.int .i64 x] t)) w.heap.size x := by
  refine ⟨by simp, ?_, ?_⟩
  · exact cell_of_one (heap_alloc_new w _)
  · exact free_of_one (heap_alloc_new w _)

/-- All terms are looked through, all are sound. -/
theorem checkAll_yes (p : Nat) (a : Option Addr) (n cap : Nat) (l : List (Int × Int)) (w : World) (B : Nat) (hB : B ≤ p) (hn : l.length = n) (hm : n ≤ 64) (hl : Lies B w a l) (ho : Own w p (-1)) (h : ∀ i, i < n → okAt l i = true) :
    Calls Try.prog 47 #[.slice a n cap, .func (.func 48) #[] #[.pointer (some ⟨p, 0, none⟩)]] w fun e w' => e = .returned (.bool true) ∧ Below B w w' :=
  (all_yes 48 #[.pointer (some ⟨p, 0, none⟩)] a n cap l w (fun i W => Own W p (lastAt l i)) (okAt l) Try.enters25 hn (by omega) B (Nat.le_trans hB (Nat.le_of_lt ho.1)) hl ho
    (fun _ _ o h => h.alloc o)
    (fun i W _ _ hI => (checkLit_any p (lastAt l i) (l.getD i (0, 0)).1 (l.getD i (0, 0)).2 W hI).mono fun _ _ ⟨he, ho', hb⟩ => ⟨he, by rw [lastAt_succ]; exact ho', hb.mono hB⟩)
    h).mono fun _ _ ⟨he, _, hb⟩ => ⟨he, hb⟩
theorem checkAll_no (p : Nat) (a : Option Addr) (n cap : Nat) (l : List (Int × Int)) (w : World) (B : Nat) (hB : B ≤ p) (hn : l.length = n) (hm : n ≤ 64) (hl : Lies B w a l) (ho : Own w p (-1)) (h : ¬ ∀ i, i < n → okAt l i = true) :
    Calls Try.prog 47 #[.slice a n cap, .func (.func 48) #[] #[.pointer (some ⟨p, 0, none⟩)]] w fun e w' => e = .returned (.bool false) ∧ Below B w w' := by
  obtain ⟨j, hj, h1, h2⟩ := first_no _ _ h
  exact (all_no 48 #[.pointer (some ⟨p, 0, none⟩)] a n cap l w (fun i W => Own W p (lastAt l i)) (okAt l) Try.enters25 hn (by omega) B (Nat.le_trans hB (Nat.le_of_lt ho.1)) hl ho
    (fun _ _ o h => h.alloc o)
    (fun i W _ _ hI => (checkLit_any p (lastAt l i) (l.getD i (0, 0)).1 (l.getD i (0, 0)).2 W hI).mono fun _ _ ⟨he, ho', hb⟩ => ⟨he, by rw [lastAt_succ]; exact ho', hb.mono hB⟩)
    j hj h1 h2).mono fun _ _ ⟨he, _, hb⟩ => ⟨he, hb⟩

set_option maxHeartbeats 800000 in
theorem check_yes (c : Int) (a : Option Addr) (n cap : Nat) (l : List (Int × Int)) (w : World) (hn : l.length = n) (hl : Lies w.heap.size w a l) (hs : snd c l = true) :
    Calls Try.prog 24 #[.agg #[.int .i64 c, .slice a n cap]] w fun e w' => e = .returned .nilIface ∧ Below w.heap.size w w' := by
  obtain ⟨hc, h64, hall⟩ := snd_iff.1 hs
  have hwi := fun w => within_any c 1073741824 w (by omega) (by omega)
  rw [hc] at hwi
  have h64' : n ≤ 64 := by omega
  rw [hn] at hall
  have hb : Below w.heap.size w ((w.alloc (.cells #[.int .i64 c, .slice a n cap] 24)).alloc (.cells #[.int .i64 (-1)] 3)) := ((Below.refl _ w).alloc (Nat.le_refl _) _).alloc (by simp) _
  have hal := checkAll_yes (w.heap.size + 1) a n cap l _ w.heap.size (by omega) hn h64' (hl.below hb) (by have := Own.new (w.alloc (.cells #[.int .i64 c, .slice a n cap] 24)) 3 (-1); simpa using this) hall
  have HB := Lib.hid hb
  clear hn hs hall hl hc h64 hb
  go_enter Try.func24, Try.ntmps24
  go_wp2_with (first | (go_at_call 46; refine (hwi _).mono ?_; rintro e w' ⟨rfl, rfl⟩) | (go_at_call 47; refine hal.mono ?_; rintro e w' ⟨rfl, hb2⟩))
  go_ret
  exact ⟨rfl, HB.out.trans hb2⟩

set_option maxHeartbeats 800000 in
theorem check_no (c : Int) (a : Option Addr) (n cap : Nat) (l : List (Int × Int)) (w : World) (hn : l.length = n) (hm : n ≤ 9223372036854775807) (hl : Lies w.heap.size w a l) (hs : snd c l = false) :
    Calls Try.prog 24 #[.agg #[.int .i64 c, .slice a n cap]] w fun e w' => e = .returned (.iface 53 (.int .i64 5)) ∧ Below w.heap.size w w' := by
  have hwi := fun w => within_any c 1073741824 w (by omega) (by omega)
  have hb : Below w.heap.size w ((w.alloc (.cells #[.int .i64 c, .slice a n cap] 24)).alloc (.cells #[.int .i64 (-1)] 3)) := ((Below.refl _ w).alloc (Nat.le_refl _) _).alloc (by simp) _
  by_cases hc : wi c 1073741824 = true
  · rw [hc] at hwi
    by_cases h64 : n ≤ 64
    · have hno : ¬ ∀ i, i < n → okAt l i = true := fun h => by
        have := (snd_iff (c := c) (l := l)).2 ⟨hc, by omega, by rw [hn]; exact h⟩
        rw [hs] at this; cases this
      have hal := checkAll_no (w.heap.size + 1) a n cap l _ w.heap.size (by omega) hn h64 (hl.below hb) (by have := Own.new (w.alloc (.cells #[.int .i64 c, .slice a n cap] 24)) 3 (-1); simpa using this) hno
      have HB := Lib.hid hb
      clear hn hs hl hc hb hno
      go_enter Try.func24, Try.ntmps24
      go_wp2_with (first | (go_at_call 46; refine (hwi _).mono ?_; rintro e w' ⟨rfl, rfl⟩) | (go_at_call 47; refine hal.mono ?_; rintro e w' ⟨rfl, hb2⟩))
      go_ret
      exact ⟨rfl, HB.out.trans hb2⟩
    · clear hn hs hl hc hb
      go_enter Try.func24, Try.ntmps24
      go_wp2_with (go_at_call 46; refine (hwi _).mono ?_; rintro e w' ⟨rfl, rfl⟩)
      go_ret
      exact ⟨rfl, (Below.refl _ w).alloc (Nat.le_refl _) _⟩
  · have hc' : wi c 1073741824 = false := by simpa using hc
    rw [hc'] at hwi
    clear hn hs hl hc hc' hb
    go_enter Try.func24, Try.ntmps24
    go_wp2_with (go_at_call 46; refine (hwi _).mono ?_; rintro e w' ⟨rfl, rfl⟩)
    go_ret
    exact ⟨rfl, (Below.refl _ w).alloc (Nat.le_refl _) _⟩
end Go.Proofs.Ytknagcednppokaa
