/- The document's Literal: the ways without division; the state of its round. -/
import Derived.Test.YtknagcednppokaaNrmK
import Derived.Test.YtknagcednppokaaLinF
import Derived.Test.YtknagcednppokaaLinRT
namespace Go.Proofs.Ytknagcednppokaa
open Go.RowKit

theorem flies_leaf2 {B : Nat} {w : World} {k c : Int} {t : List (Int × Int)} {ta : Option Addr} {tcap : Nat} (ht : t.length ≤ 9223372036854775807) (h : Lies B w ta t) : FLies B w 2 (.mk k c t []) [.int .i64 k, .int .i64 c, .slice ta t.length tcap, .slice none 0 0] :=
  ⟨ta, tcap, none, 0, rfl, h, ht, by simp [FT.ks], fun i hi => absurd hi (by simp [FT.ks])⟩

set_option maxHeartbeats 1000000 in
theorem rlit_bad (c : Int) (a : Option Addr) (n cap : Nat) (l : List (Int × Int)) (w : World) (hn : l.length = n) (hm : n ≤ 9223372036854775807) (hl : Lies w.heap.size w a l) (hs : snd c l = false) :
    Calls Try.prog 11 #[.agg #[.int .i64 c, .slice a n cap]] w (LitEnd w.heap.size (.mk 0 0 [] []) (.int .i64 5) w) := by
  have HCK : Hid (∀ W, Below w.heap.size w W → Calls Try.prog 28 #[.agg #[.int .i64 c, .slice a n cap]] W fun e w' => e = .returned (.bool false) ∧ Below W.heap.size W w') := fun W hb => by
    have := rcheck_any c a n cap l W hn hm ((hl.below hb).mono hb.size)
    rwa [hs] at this
  have hb1 : Below w.heap.size w (w.alloc (.cells #[.int .i64 c, .slice a n cap] 24)) := (Below.refl _ w).alloc (Nat.le_refl _) _
  have B0 : Hid (Below w.heap.size w ((w.alloc (.cells #[.int .i64 c, .slice a n cap] 24)).alloc (.cells #[.int .i64 0, .int .i64 0, .slice none 0 0, .slice none 0 0] 28))) := hb1.alloc hb1.size _
  have F0 := Lib.hid (fb_new (w.alloc (.cells #[.int .i64 c, .slice a n cap] 24)) (w.heap.size + 1) (by simp))
  have hb2 := (Below.refl (w.alloc (.cells #[.int .i64 c, .slice a n cap] 24)).heap.size (w.alloc (.cells #[.int .i64 c, .slice a n cap] 24))).alloc (Nat.le_refl _) (.cells #[.int .i64 0, .int .i64 0, .slice none 0 0, .slice none 0 0] 28)
  have l0 : ((w.alloc (.cells #[.int .i64 c, .slice a n cap] 24)).alloc (.cells #[.int .i64 0, .int .i64 0, .slice none 0 0, .slice none 0 0] 28)).cell? ⟨w.heap.size, 0, none⟩ = some (.int .i64 c) := by rw [hb2.cell (p := ⟨w.heap.size, 0, none⟩) (by simp)]; simp
  have l1 : ((w.alloc (.cells #[.int .i64 c, .slice a n cap] 24)).alloc (.cells #[.int .i64 0, .int .i64 0, .slice none 0 0, .slice none 0 0] 28)).cell? ⟨w.heap.size, 1, none⟩ = some (.slice a n cap) := by rw [hb2.cell (p := ⟨w.heap.size, 1, none⟩) (by simp)]; simp
  clear hb1 hb2 hs hl hn
  go_enter Try.func11, Try.ntmps11
  go_wp2_with fail
  refine (HCK.out _ B0.out).mono ?_
  rintro e w2 ⟨rfl, hb2⟩
  have B2 := Lib.hid (B0.out.trans (hb2.mono B0.out.size))
  have F2 := Lib.hid (F0.out.below hb2 (by simp))
  clear hb2 l0 l1
  obtain ⟨r0, r1, r2, r3, rf⟩ := F2.out
  go_wp2_with fail
  clear r0 r1 r2 r3 rf
  refine bodyPost_ret (v := .tuple #[.agg #[.int .i64 0, .int .i64 0, .slice none 0 0, .slice none 0 0], .int .i64 5]) ?_ rfl ⟨_, rfl, flies_flat, below4 B2.out (Nat.le_succ _) _ _ _ _⟩
  obtain ⟨e0, e1, e2, e3⟩ := res4 F2.out (.int .i64 0) (.int .i64 0) (.slice none 0 0) (.slice none 0 0)
  simp [results, Try.results11, go_sem, e0, e1, e2, e3]

set_option maxHeartbeats 1000000 in
theorem rlit_none (c : Int) (a : Option Addr) (cap : Nat) (w : World) (hs : snd c [] = true) (k : Int) (hk : k = if c ≤ 0 then 0 else 1) :
    Calls Try.prog 11 #[.agg #[.int .i64 c, .slice a 0 cap]] w (LitEnd w.heap.size (.mk k 0 [] []) (.int .i64 0) w) := by
  have HCK : Hid (∀ W, Below w.heap.size w W → Calls Try.prog 28 #[.agg #[.int .i64 c, .slice a 0 cap]] W fun e w' => e = .returned (.bool true) ∧ Below W.heap.size W w') := fun W hb => by
    have := rcheck_any c a 0 cap [] W rfl (by omega) (fun i hi => absurd hi (Nat.not_lt_zero i))
    rwa [hs] at this
  have hb1 : Below w.heap.size w (w.alloc (.cells #[.int .i64 c, .slice a 0 cap] 24)) := (Below.refl _ w).alloc (Nat.le_refl _) _
  have B0 : Hid (Below w.heap.size w ((w.alloc (.cells #[.int .i64 c, .slice a 0 cap] 24)).alloc (.cells #[.int .i64 0, .int .i64 0, .slice none 0 0, .slice none 0 0] 28))) := hb1.alloc hb1.size _
  have F0 := Lib.hid (fb_new (w.alloc (.cells #[.int .i64 c, .slice a 0 cap] 24)) (w.heap.size + 1) (by simp))
  have hb2 := (Below.refl (w.alloc (.cells #[.int .i64 c, .slice a 0 cap] 24)).heap.size (w.alloc (.cells #[.int .i64 c, .slice a 0 cap] 24))).alloc (Nat.le_refl _) (.cells #[.int .i64 0, .int .i64 0, .slice none 0 0, .slice none 0 0] 28)
  have l0 : ((w.alloc (.cells #[.int .i64 c, .slice a 0 cap] 24)).alloc (.cells #[.int .i64 0, .int .i64 0, .slice none 0 0, .slice none 0 0] 28)).cell? ⟨w.heap.size, 0, none⟩ = some (.int .i64 c) := by rw [hb2.cell (p := ⟨w.heap.size, 0, none⟩) (by simp)]; simp
  have l1 : ((w.alloc (.cells #[.int .i64 c, .slice a 0 cap] 24)).alloc (.cells #[.int .i64 0, .int .i64 0, .slice none 0 0, .slice none 0 0] 28)).cell? ⟨w.heap.size, 1, none⟩ = some (.slice a 0 cap) := by rw [hb2.cell (p := ⟨w.heap.size, 1, none⟩) (by simp)]; simp
  clear hb1 hb2 hs
  by_cases hc : c ≤ 0
  · rw [if_pos hc] at hk
    subst hk
    have hc' : ¬ 0 < c := by omega
    go_enter Try.func11, Try.ntmps11
    go_wp2_with fail
    refine (HCK.out _ B0.out).mono ?_
    rintro e w2 ⟨rfl, hb2⟩
    have B2 := Lib.hid (B0.out.trans (hb2.mono B0.out.size))
    have F2 := Lib.hid (F0.out.below hb2 (by simp))
    have d0 : w2.cell? ⟨w.heap.size, 0, none⟩ = some (.int .i64 c) := (hb2.cell (p := ⟨w.heap.size, 0, none⟩) (by simp; omega)).trans l0
    have d1 : w2.cell? ⟨w.heap.size, 1, none⟩ = some (.slice a 0 cap) := (hb2.cell (p := ⟨w.heap.size, 1, none⟩) (by simp; omega)).trans l1
    clear hb2 l0 l1
    obtain ⟨r0, r1, r2, r3, rf⟩ := F2.out
    go_wp2_with fail
    clear r0 r1 r2 r3 rf d0 d1
    refine bodyPost_ret (v := .tuple #[.agg #[.int .i64 0, .int .i64 0, .slice none 0 0, .slice none 0 0], .int .i64 0]) ?_ rfl ⟨_, rfl, flies_flat, below4 B2.out (Nat.le_succ _) _ _ _ _⟩
    obtain ⟨e0, e1, e2, e3⟩ := res4 F2.out (.int .i64 0) (.int .i64 0) (.slice none 0 0) (.slice none 0 0)
    simp [results, Try.results11, go_sem, e0, e1, e2, e3]
  · rw [if_neg hc] at hk
    subst hk
    have hc' : 0 < c := by omega
    go_enter Try.func11, Try.ntmps11
    go_wp2_with fail
    refine (HCK.out _ B0.out).mono ?_
    rintro e w2 ⟨rfl, hb2⟩
    have B2 := Lib.hid (B0.out.trans (hb2.mono B0.out.size))
    have F2 := Lib.hid (F0.out.below hb2 (by simp))
    have d0 : w2.cell? ⟨w.heap.size, 0, none⟩ = some (.int .i64 c) := (hb2.cell (p := ⟨w.heap.size, 0, none⟩) (by simp; omega)).trans l0
    have d1 : w2.cell? ⟨w.heap.size, 1, none⟩ = some (.slice a 0 cap) := (hb2.cell (p := ⟨w.heap.size, 1, none⟩) (by simp; omega)).trans l1
    clear hb2 l0 l1
    obtain ⟨r0, r1, r2, r3, rf⟩ := F2.out
    go_wp2_with fail
    clear r0 r1 r2 r3 rf d0 d1
    refine bodyPost_ret (v := .tuple #[.agg #[.int .i64 1, .int .i64 0, .slice none 0 0, .slice none 0 0], .int .i64 0]) ?_ rfl ⟨_, rfl, flies_flat, below4 B2.out (Nat.le_succ _) _ _ _ _⟩
    obtain ⟨e0, e1, e2, e3⟩ := res4 F2.out (.int .i64 1) (.int .i64 0) (.slice none 0 0) (.slice none 0 0)
    simp [results, Try.results11, go_sem, e0, e1, e2, e3]

/-- Within the document's Literal: its form, the result, the form that it makes. -/
structure LitSt (w W : World) (c u : Int) (a : Option Addr) (n cap Mb : Nat) (v : Value) (r : List (Int × Int)) : Prop where
  row : Row (Mb + 1) r v W
  l0 : W.cell? ⟨w.heap.size, 0, none⟩ = some (.int .i64 c)
  l1 : W.cell? ⟨w.heap.size, 1, none⟩ = some (.slice a n cap)
  fb : FB W (w.heap.size + 1)
  m0 : W.cell? ⟨Mb, 0, none⟩ = some (.int .i64 u)
  m1 : W.cell? ⟨Mb, 1, none⟩ = some v
  mf : ∀ o, W.frozen? ⟨Mb, o, none⟩ = false
  lt : w.heap.size + 1 < Mb
  mz : Mb < W.heap.size
  bel : Below w.heap.size w W
theorem LitSt.start {w w1 : World} {c u : Int} {a : Option Addr} {n cap : Nat} (hb : Below w.heap.size w w1) (hz : w.heap.size + 1 < w1.heap.size) (p0 : w1.cell? ⟨w.heap.size, 0, none⟩ = some (.int .i64 c)) (p1 : w1.cell? ⟨w.heap.size, 1, none⟩ = some (.slice a n cap)) (hf : FB w1 (w.heap.size + 1)) :
    LitSt w (w1.alloc (.cells #[.int .i64 u, .slice none 0 0] 24)) c u a n cap w1.heap.size (.slice none 0 0) [] := by
  have hba : Below w1.heap.size w1 (w1.alloc (.cells #[.int .i64 u, .slice none 0 0] 24)) := (Below.refl _ w1).alloc (Nat.le_refl _) _
  have hn := heap_alloc_new w1 (.cells #[.int .i64 u, .slice none 0 0] 24)
  exact ⟨World.ownsRow_nil _ _ _ _, (hba.cell (p := ⟨w.heap.size, 0, none⟩) (by show w.heap.size < _; omega)).trans p0, (hba.cell (p := ⟨w.heap.size, 1, none⟩) (by show w.heap.size < _; omega)).trans p1, hf.below hba hz,
    by rw [cell_of_row _ _ _ _ _ _ hn]; rfl, by rw [cell_of_row _ _ _ _ _ _ hn]; rfl, fun o => frozen_of_row _ _ _ _ _ hn, hz, by simp, hb.trans (hba.mono hb.size)⟩
theorem LitSt.below {w W w6 w5 : World} {c u : Int} {a : Option Addr} {n cap Mb : Nat} {v : Value} {r : List (Int × Int)} (h : LitSt w W c u a n cap Mb v r) (hb5 : Below (Mb + 1) W w5) (hg : w5.grownBy w6 v.ownBlock) : Below (Mb + 1) W w6 :=
  hb5.grown hg (Nat.le_trans h.mz hb5.size) (fun j hj => (World.ownsRow.lt h.row j hj).1)
theorem LitSt.far {w W w6 w5 : World} {c u : Int} {a : Option Addr} {n cap Mb : Nat} {v : Value} {r : List (Int × Int)} (h : LitSt w W c u a n cap Mb v r) (hb5 : Below (Mb + 1) W w5) (hg : w5.grownBy w6 v.ownBlock) :
    w6.cell? ⟨Mb, 1, none⟩ = some v ∧ ∀ o, w6.frozen? ⟨Mb, o, none⟩ = false := by
  have hb6 := h.below hb5 hg
  exact ⟨(hb6.cell (p := ⟨Mb, 1, none⟩) (Nat.lt_succ_self _)).trans h.m1, fun o => (hb6.frozen (p := ⟨Mb, o, none⟩) (Nat.lt_succ_self _)).trans (h.mf o)⟩
theorem LitSt.step {w W w6 w5 : World} {c u : Int} {a : Option Addr} {n cap Mb : Nat} {v v6 : Value} {r r6 : List (Int × Int)} (h : LitSt w W c u a n cap Mb v r) (hb5 : Below (Mb + 1) W w5) (hg : w5.grownBy w6 v.ownBlock) (hr : Row (Mb + 1) r6 v6 w6) :
    LitSt w (w6.setCell ⟨Mb, 1, none⟩ v6) c u a n cap Mb v6 r6 := by
  have hb6 := h.below hb5 hg
  have hlt := h.lt
  have hz6 : Mb < w6.heap.size := Nat.lt_of_lt_of_le h.mz hb6.size
  have k : w6.grownBy (w6.setCell ⟨Mb, 1, none⟩ v6) (some Mb) := ⟨rfl, rfl, rfl, Nat.le_of_eq (World.size_setCell _ _ _).symm, fun q _ hq => Below.heap_setCell _ _ _ _ (fun e => hq (by rw [e]))⟩
  have hc : ∀ b o, b < Mb → (w6.setCell ⟨Mb, 1, none⟩ v6).cell? ⟨b, o, none⟩ = W.cell? ⟨b, o, none⟩ := fun b o hb => by
    rw [World.cell?_setCell_other _ _ _ _ (by simp <;> omega)]
    exact hb6.cell (p := ⟨b, o, none⟩) (by show b < _; omega)
  have hf : ∀ b o, b ≤ Mb → (w6.setCell ⟨Mb, 1, none⟩ v6).frozen? ⟨b, o, none⟩ = W.frozen? ⟨b, o, none⟩ := fun b o hb => (World.frozen?_setCell _ _ _ _).trans (hb6.frozen (p := ⟨b, o, none⟩) (by show b < _; omega))
  refine ⟨World.ownsRow.kept hr k (.inr (fun e => ?_)), (hc _ _ (by omega)).trans h.l0, (hc _ _ (by omega)).trans h.l1, ⟨(hc _ _ hlt).trans h.fb.r0, (hc _ _ hlt).trans h.fb.r1, (hc _ _ hlt).trans h.fb.r2, (hc _ _ hlt).trans h.fb.r3, fun o => (hf _ o (by omega)).trans (h.fb.fz o)⟩, ?_, ?_, fun o => (hf _ o (Nat.le_refl _)).trans (h.mf o), hlt, by rw [World.size_setCell]; exact hz6, (h.bel.trans (hb6.mono (by omega))).setCell (p := ⟨Mb, 1, none⟩) (by show _ ≤ Mb; omega) _⟩
  · have := (World.ownsRow.lt hr _ e).1; omega
  · rw [World.cell?_setCell_other _ _ _ _ (by simp)]
    exact (hb6.cell (p := ⟨Mb, 0, none⟩) (Nat.lt_succ_self _)).trans h.m0
  · exact World.cell?_setCell_same _ _ _ (h.far hb5 hg).1
end Go.Proofs.Ytknagcednppokaa
