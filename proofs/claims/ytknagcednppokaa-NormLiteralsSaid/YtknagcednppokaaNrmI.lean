/- norm.Literal: the ways without division. -/
import Derived.Test.YtknagcednppokaaNrmH
namespace Go.Proofs.Ytknagcednppokaa
open Go.RowKit

/-- What a literal's function answers: a formula, and what is amiss. -/
def LitEnd (B : Nat) (f : FT) (x : Value) (w : World) (e : Ending) (w' : World) : Prop := ∃ cs, e = .returned (.tuple #[.agg cs.toArray, x]) ∧ FLies w'.heap.size w' 2 f cs ∧ Below B w w'
theorem flies_flat {B : Nat} {w : World} {k c : Int} : FLies B w 2 (.mk k c [] []) [.int .i64 k, .int .i64 c, .slice none 0 0, .slice none 0 0] :=
  ⟨none, 0, none, 0, rfl, fun i hi => absurd hi (Nat.not_lt_zero i), by simp [FT.t], by simp [FT.ks], fun i hi => absurd hi (by simp [FT.ks])⟩

set_option maxHeartbeats 1000000 in
theorem literal_bad (c : Int) (a : Option Addr) (n cap : Nat) (l : List (Int × Int)) (w : World) (hn : l.length = n) (hm : n ≤ 9223372036854775807) (hl : Lies w.heap.size w a l) (hs : snd c l = false) :
    Calls Try.prog 10 #[.agg #[.int .i64 c, .slice a n cap]] w (LitEnd w.heap.size (.mk 0 0 [] []) (.iface 53 (.int .i64 5)) w) := by
  have HCK := Lib.hid (fun W (hb : Below w.heap.size w W) => check_no c a n cap l W hn hm ((hl.below hb).mono hb.size) hs)
  have hb1 : Below w.heap.size w (w.alloc (.cells #[.int .i64 c, .slice a n cap] 24)) := (Below.refl _ w).alloc (Nat.le_refl _) _
  have B0 : Hid (Below w.heap.size w ((w.alloc (.cells #[.int .i64 c, .slice a n cap] 24)).alloc (.cells #[.int .i64 0, .int .i64 0, .slice none 0 0, .slice none 0 0] 28))) := hb1.alloc hb1.size _
  have F0 := Lib.hid (fb_new (w.alloc (.cells #[.int .i64 c, .slice a n cap] 24)) (w.heap.size + 1) (by simp))
  have hb2 := (Below.refl (w.alloc (.cells #[.int .i64 c, .slice a n cap] 24)).heap.size (w.alloc (.cells #[.int .i64 c, .slice a n cap] 24))).alloc (Nat.le_refl _) (.cells #[.int .i64 0, .int .i64 0, .slice none 0 0, .slice none 0 0] 28)
  have l0 : ((w.alloc (.cells #[.int .i64 c, .slice a n cap] 24)).alloc (.cells #[.int .i64 0, .int .i64 0, .slice none 0 0, .slice none 0 0] 28)).cell? ⟨w.heap.size, 0, none⟩ = some (.int .i64 c) := by rw [hb2.cell (p := ⟨w.heap.size, 0, none⟩) (by simp)]; simp
  have l1 : ((w.alloc (.cells #[.int .i64 c, .slice a n cap] 24)).alloc (.cells #[.int .i64 0, .int .i64 0, .slice none 0 0, .slice none 0 0] 28)).cell? ⟨w.heap.size, 1, none⟩ = some (.slice a n cap) := by rw [hb2.cell (p := ⟨w.heap.size, 1, none⟩) (by simp)]; simp
  clear hb1 hb2 hs hl hn
  go_enter Try.func10, Try.ntmps10
  have n1 := fun W => Try.neCode 5 W
  go_wp2_with fail
  refine (HCK.out _ B0.out).mono ?_
  rintro e w2 ⟨rfl, hb2⟩
  have B2 := Lib.hid (B0.out.trans (hb2.mono B0.out.size))
  have F2 := Lib.hid (F0.out.below hb2 (by simp))
  clear hb2 l0 l1
  obtain ⟨r0, r1, r2, r3, rf⟩ := F2.out
  go_wp2_with fail
  clear r0 r1 r2 r3 rf
  refine bodyPost_ret (v := .tuple #[.agg #[.int .i64 0, .int .i64 0, .slice none 0 0, .slice none 0 0], .iface 53 (.int .i64 5)]) ?_ rfl ⟨_, rfl, flies_flat, below4 B2.out (Nat.le_succ _) _ _ _ _⟩
  obtain ⟨e0, e1, e2, e3⟩ := res4 F2.out (.int .i64 0) (.int .i64 0) (.slice none 0 0) (.slice none 0 0)
  simp [results, Try.results10, go_sem, e0, e1, e2, e3]

set_option maxHeartbeats 1000000 in
theorem literal_none (c : Int) (a : Option Addr) (cap : Nat) (w : World) (hs : snd c [] = true) (k : Int) (hk : k = if c ≤ 0 then 0 else 1) :
    Calls Try.prog 10 #[.agg #[.int .i64 c, .slice a 0 cap]] w (LitEnd w.heap.size (.mk k 0 [] []) .nilIface w) := by
  have HCK := Lib.hid (fun W (hb : Below w.heap.size w W) => check_yes c a 0 cap [] W rfl (fun i hi => absurd hi (Nat.not_lt_zero i)) hs)
  have hb1 : Below w.heap.size w (w.alloc (.cells #[.int .i64 c, .slice a 0 cap] 24)) := (Below.refl _ w).alloc (Nat.le_refl _) _
  have B0 : Hid (Below w.heap.size w ((w.alloc (.cells #[.int .i64 c, .slice a 0 cap] 24)).alloc (.cells #[.int .i64 0, .int .i64 0, .slice none 0 0, .slice none 0 0] 28))) := hb1.alloc hb1.size _
  have F0 := Lib.hid (fb_new (w.alloc (.cells #[.int .i64 c, .slice a 0 cap] 24)) (w.heap.size + 1) (by simp))
  have hb2 := (Below.refl (w.alloc (.cells #[.int .i64 c, .slice a 0 cap] 24)).heap.size (w.alloc (.cells #[.int .i64 c, .slice a 0 cap] 24))).alloc (Nat.le_refl _) (.cells #[.int .i64 0, .int .i64 0, .slice none 0 0, .slice none 0 0] 28)
  have l0 : ((w.alloc (.cells #[.int .i64 c, .slice a 0 cap] 24)).alloc (.cells #[.int .i64 0, .int .i64 0, .slice none 0 0, .slice none 0 0] 28)).cell? ⟨w.heap.size, 0, none⟩ = some (.int .i64 c) := by rw [hb2.cell (p := ⟨w.heap.size, 0, none⟩) (by simp)]; simp
  have l1 : ((w.alloc (.cells #[.int .i64 c, .slice a 0 cap] 24)).alloc (.cells #[.int .i64 0, .int .i64 0, .slice none 0 0, .slice none 0 0] 28)).cell? ⟨w.heap.size, 1, none⟩ = some (.slice a 0 cap) := by rw [hb2.cell (p := ⟨w.heap.size, 1, none⟩) (by simp)]; simp
  clear hb1 hb2 hs
  have n1 := fun W => Try.neNil W
  by_cases hc : c ≤ 0
  · rw [if_pos hc] at hk
    subst hk
    go_enter Try.func10, Try.ntmps10
    go_wp2_with fail
    refine (HCK.out _ B0.out).mono ?_
    rintro e w2 ⟨rfl, hb2⟩
    have B2 := Lib.hid (B0.out.trans (hb2.mono B0.out.size))
    have F2 := Lib.hid (F0.out.below hb2 (by simp))
    have d0 : w2.cell? ⟨w.heap.size, 0, none⟩ = some (.int .i64 c) := (hb2.cell (p := ⟨w.heap.size, 0, none⟩) (by simp; omega)).trans l0
    have d1 : w2.cell? ⟨w.heap.size, 1, none⟩ = some (.slice a 0 cap) := (hb2.cell (p := ⟨w.heap.size, 1, none⟩) (by simp; omega)).trans l1
    clear hb2 l0 l1
    obtain ⟨r0, r1, r2, r3, rf⟩ := F2.out
    go_wp2_with fail
    clear r0 r1 r2 r3 rf d0 d1
    refine bodyPost_ret (v := .tuple #[.agg #[.int .i64 0, .int .i64 0, .slice none 0 0, .slice none 0 0], .nilIface]) ?_ rfl ⟨_, rfl, flies_flat, below4 B2.out (Nat.le_succ _) _ _ _ _⟩
    obtain ⟨e0, e1, e2, e3⟩ := res4 F2.out (.int .i64 0) (.int .i64 0) (.slice none 0 0) (.slice none 0 0)
    simp [results, Try.results10, go_sem, e0, e1, e2, e3]
  · rw [if_neg hc] at hk
    subst hk
    go_enter Try.func10, Try.ntmps10
    go_wp2_with fail
    refine (HCK.out _ B0.out).mono ?_
    rintro e w2 ⟨rfl, hb2⟩
    have B2 := Lib.hid (B0.out.trans (hb2.mono B0.out.size))
    have F2 := Lib.hid (F0.out.below hb2 (by simp))
    have d0 : w2.cell? ⟨w.heap.size, 0, none⟩ = some (.int .i64 c) := (hb2.cell (p := ⟨w.heap.size, 0, none⟩) (by simp; omega)).trans l0
    have d1 : w2.cell? ⟨w.heap.size, 1, none⟩ = some (.slice a 0 cap) := (hb2.cell (p := ⟨w.heap.size, 1, none⟩) (by simp; omega)).trans l1
    clear hb2 l0 l1
    obtain ⟨r0, r1, r2, r3, rf⟩ := F2.out
    go_wp2_with fail
    clear r0 r1 r2 r3 rf d0 d1
    refine bodyPost_ret (v := .tuple #[.agg #[.int .i64 1, .int .i64 0, .slice none 0 0, .slice none 0 0], .nilIface]) ?_ rfl ⟨_, rfl, flies_flat, below4 B2.out (Nat.le_succ _) _ _ _ _⟩
    obtain ⟨e0, e1, e2, e3⟩ := res4 F2.out (.int .i64 1) (.int .i64 0) (.slice none 0 0) (.slice none 0 0)
    simp [results, Try.results10, go_sem, e0, e1, e2, e3]
end Go.Proofs.Ytknagcednppokaa
