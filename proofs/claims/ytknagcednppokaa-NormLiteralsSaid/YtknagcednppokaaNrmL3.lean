/- The walk of NormLiterals. -/
import Derived.Test.YtknagcednppokaaNrmL2
import Derived.Test.YtknagcednppokaaNrmJ
import Derived.Test.YtknagcednppokaaFrmS4
namespace Go.Proofs.Ytknagcednppokaa
open Go.RowKit

/-- A form's literal, by both: one formula, one number of what is amiss. -/
theorem lit_total (c : Int) (a : Option Addr) (n cap : Nat) (l : List (Int × Int)) (w : World) (hn : l.length = n) (hm : n ≤ 9223372036854775807) (hl : Lies w.heap.size w a l) : ∃ (f : FT) (x : Value) (k : Int),
    (∀ W, Below w.heap.size w W → Calls Try.prog 10 #[.agg #[.int .i64 c, .slice a n cap]] W (LitEnd W.heap.size f x W)) ∧
    (∀ W, Below w.heap.size w W → Calls Try.prog 11 #[.agg #[.int .i64 c, .slice a n cap]] W (LitEnd W.heap.size f (.int .i64 k) W)) ∧
    (∀ W, Calls Try.prog 13 #[x] W fun e w' => e = .returned (.int .i64 k) ∧ W = w') := by
  have HL := fun W (hb : Below w.heap.size w W) => (hl.below hb).mono hb.size
  by_cases hs : snd c l = true
  · by_cases h0 : n = 0
    · subst h0
      obtain rfl : l = [] := List.eq_nil_of_length_eq_zero hn
      exact ⟨_, _, _, fun W hb => literal_none c a cap W hs _ rfl, fun W hb => rlit_none c a cap W hs _ rfl, fun W => code_nil W⟩
    · have h0' : 0 < n := by omega
      by_cases hp : 0 < (l.getD 0 (0, 0)).2.tdiv (gAt l n)
      · refine ⟨.mk 2 (upI c (gAt l n)) (redL (gAt l n) l) [], .nilIface, 0, fun W hb => (literal_pos c a n cap l W hn (HL W hb) hs h0' hp).mono fun e w' h => ?_, fun W hb => rlit_terms c a n cap l W hn (HL W hb) hs h0' _ _ ⟨fun _ => ⟨rfl, rfl⟩, fun h => absurd hp h, fun h => absurd hp h⟩, fun W => code_nil W⟩
        obtain ⟨v, rfl, hrow, hbl⟩ := h
        obtain ⟨a3, cap3, rfl, hl3, _⟩ := hrow.lies
        have h64 := (snd_iff.1 hs).2.1
        exact ⟨_, rfl, flies_leaf2 (by rw [redL_len]; omega) hl3, hbl⟩
      · by_cases hw : wi (1 - upI c (gAt l n)) 1073741824 = true
        · exact ⟨_, _, _, fun W hb => (literal_neg c a n cap l W hn (HL W hb) hs h0' hp).1 hw, fun W hb => rlit_terms c a n cap l W hn (HL W hb) hs h0' _ _ ⟨fun h => absurd h hp, fun _ _ => ⟨rfl, rfl⟩, fun _ h => (by rw [hw] at h; cases h)⟩, fun W => code_nil W⟩
        · rw [Bool.not_eq_true] at hw
          exact ⟨_, _, _, fun W hb => (literal_neg c a n cap l W hn (HL W hb) hs h0' hp).2 hw, fun W hb => rlit_terms c a n cap l W hn (HL W hb) hs h0' _ _ ⟨fun h => absurd h hp, fun _ h => (by rw [hw] at h; cases h), fun _ _ => ⟨rfl, rfl⟩⟩, fun W => code_k 3 W (by omega) (by omega)⟩
  · rw [Bool.not_eq_true] at hs
    exact ⟨_, _, _, fun W hb => literal_bad c a n cap l W hn hm (HL W hb) hs, fun W hb => rlit_bad c a n cap l W hn hm (HL W hb) hs, fun W => code_k 5 W (by omega) (by omega)⟩

theorem form_cells {W : World} {b : Nat} {x0 x1 x2 x3 : Value} (h : W.heap[b]? = some (.cells #[x0, x1, x2, x3] 28 (0, 0))) : W.cell? ⟨b, 0, none⟩ = some x0 ∧ W.cell? ⟨b, 1, none⟩ = some x1 ∧ W.cell? ⟨b, 2, none⟩ = some x2 ∧ W.cell? ⟨b, 3, none⟩ = some x3 :=
  ⟨(cell_of_row _ _ _ _ _ _ h).trans rfl, (cell_of_row _ _ _ _ _ _ h).trans rfl, (cell_of_row _ _ _ _ _ _ h).trans rfl, (cell_of_row _ _ _ _ _ _ h).trans rfl⟩

set_option maxRecDepth 100000 in
set_option maxHeartbeats 2000000 in
theorem normLiterals_any (hup : UpSaid3) (c : Int) (a : Option Addr) (n cap : Nat) (l : List (Int × Int)) (w : World) (hn : l.length = n) (hm : n ≤ 9223372036854775807) (hl : Lies w.heap.size w a l) :
    Calls Try.prog 3 #[.agg #[.int .i64 c, .slice a n cap]] w fun e w' => e = .returned (.bool true) ∧ Below w.heap.size w w' := by
  obtain ⟨f, x, k, h1, h2, h3⟩ := lit_total c a n cap l w hn hm hl
  have H1 := Lib.hid h1
  have H2 := Lib.hid h2
  have H3 := Lib.hid h3
  have B0 : Hid (Below w.heap.size w (w.alloc (.cells #[.int .i64 c, .slice a n cap] 24))) := (Below.refl _ w).alloc (Nat.le_refl _) _
  have P0 : Hid (∀ W, Below (w.heap.size + 1) (w.alloc (.cells #[.int .i64 c, .slice a n cap] 24)) W → W.cell? ⟨w.heap.size, 0, none⟩ = some (.int .i64 c) ∧ W.cell? ⟨w.heap.size, 1, none⟩ = some (.slice a n cap)) := fun W hb =>
    ⟨by rw [hb.cell (p := ⟨w.heap.size, 0, none⟩) (Nat.lt_succ_self _)]; simp, by rw [hb.cell (p := ⟨w.heap.size, 1, none⟩) (Nat.lt_succ_self _)]; simp⟩
  have Z0 : (w.alloc (.cells #[.int .i64 c, .slice a n cap] 24)).heap.size = w.heap.size + 1 := by simp
  generalize hw1 : w.alloc (.cells #[.int .i64 c, .slice a n cap] 24) = w1 at B0 P0 Z0
  clear h1 h2 h3 hl hn hm
  go_enter Try.func3, Try.ntmps3
  go_wp2_with fail
  clear hw1
  refine (hup _).mono ?_
  rintro e w2 ⟨rfl, hb2⟩
  rw [Z0] at hb2
  obtain ⟨q0, q1⟩ := P0.out _ hb2
  have HB2 := Lib.hid hb2
  clear hb2
  have Z2 : w.heap.size + 1 ≤ w2.heap.size := by have := HB2.out.size; omega
  go_wp2_with fail
  refine (H1.out _ (B0.out.trans (HB2.out.mono (Nat.le_succ _)))).mono ?_
  rintro e w3 ⟨cs3, rfl, hf3, hb3⟩
  have HF3 := Lib.hid hf3
  cases f with
  | mk fk fc ft fs =>
  obtain ⟨ta, tcap, ka, kcap, rfl, _⟩ := hf3
  simp only [FT.kind, FT.c, FT.t, FT.ks] at HF3 ⊢
  have HB3 := Lib.hid (HB2.out.trans (hb3.mono Z2))
  have Z3 : w.heap.size + 1 ≤ w3.heap.size := Nat.le_trans Z2 hb3.size
  have hba : Below w3.heap.size w3 (w3.alloc (.cells #[.int .i64 fk, .int .i64 fc, .slice ta ft.length tcap, .slice ka fs.length kcap] 28)) := (Below.refl _ _).alloc (Nat.le_refl _) _
  have HB4 := Lib.hid (HB3.out.trans (hba.mono Z3))
  have Z4 : w3.heap.size < (w3.alloc (.cells #[.int .i64 fk, .int .i64 fc, .slice ta ft.length tcap, .slice ka fs.length kcap] 28)).heap.size := by simp
  have HN3 := Lib.hid (heap_alloc_new w3 (.cells #[.int .i64 fk, .int .i64 fc, .slice ta ft.length tcap, .slice ka fs.length kcap] 28))
  have HF4 := Lib.hid ((HF3.out.below hba).mono hba.size)
  obtain ⟨s0, s1⟩ := P0.out _ HB4.out
  clear hb3 hba q0 q1
  go_wp2_with fail
  generalize w3.alloc (.cells #[.int .i64 fk, .int .i64 fc, .slice ta ft.length tcap, .slice ka fs.length kcap] 28) = w4 at HB4 Z4 HN3 HF4 s0 s1 ⊢
  generalize w3.heap.size = N3 at Z3 Z4 HN3 ⊢
  refine (H2.out _ (B0.out.trans (HB4.out.mono (Nat.le_succ _)))).mono ?_
  rintro e w5 ⟨cs5, rfl, hf5, hb5⟩
  have HF5 := Lib.hid hf5
  obtain ⟨tb, tcapb, kb, kcapb, rfl, _⟩ := hf5
  simp only [FT.kind, FT.c, FT.t, FT.ks] at HF5 ⊢
  have hbb : Below w5.heap.size w5 (w5.alloc (.cells #[.int .i64 fk, .int .i64 fc, .slice tb ft.length tcapb, .slice kb fs.length kcapb] 28)) := (Below.refl _ _).alloc (Nat.le_refl _) _
  have Z5 : w4.heap.size ≤ w5.heap.size := hb5.size
  have HB6 := Lib.hid ((HB4.out.trans (hb5.mono (by omega))).trans (hbb.mono (by omega)))
  obtain ⟨t0, t1, t2, t3⟩ := form_cells (((hbb.block _ (by omega)).trans (hb5.block _ Z4)).trans HN3.out)
  obtain ⟨v0, v1, v2, v3⟩ := form_cells (heap_alloc_new w5 (.cells #[.int .i64 fk, .int .i64 fc, .slice tb ft.length tcapb, .slice kb fs.length kcapb] 28))
  have HSM := Lib.hid (same2_any 2 (.mk fk fc ft fs) _ _ _ ((((HF4.out.below hb5).mono hb5.size).below hbb).mono hbb.size) ((HF5.out.below hbb).mono hbb.size))
  have Z6 : w5.heap.size ≤ (w5.alloc (.cells #[.int .i64 fk, .int .i64 fc, .slice tb ft.length tcapb, .slice kb fs.length kcapb] 28)).heap.size := hbb.size
  clear hb5 hbb s0 s1
  go_wp2_with fail
  refine HSM.out.mono ?_
  rintro e w7 ⟨rfl, hb7⟩
  have HB7 := Lib.hid (HB6.out.trans (hb7.mono (by omega)))
  clear hb7 t0 t1 t2 t3 v0 v1 v2 v3
  go_wp2_with fail
  refine (H3.out _).mono ?_
  rintro e w8 ⟨rfl, rfl⟩
  go_wp2_with fail
  go_ret
  exact ⟨rfl, B0.out.trans (HB7.out.mono (Nat.le_succ _))⟩
end Go.Proofs.Ytknagcednppokaa
