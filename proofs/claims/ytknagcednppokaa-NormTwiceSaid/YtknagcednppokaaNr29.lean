/- norm.Norm, and the document's. The walk of NormForms. -/
import Derived.Test.YtknagcednppokaaNr18
import Derived.Test.YtknagcednppokaaNr27
import Derived.Test.YtknagcednppokaaNr28
set_option linter.unusedVariables false
set_option linter.unusedSimpArgs false
namespace Go.Proofs.Ytknagcednppokaa
open Go.RowKit

/-- What normalizing a formula makes, and what is amiss. -/
def nrmT (n : Nat) (f : FT) : FT := if cc n f = 0 then (normF n f true).getD (.mk 0 0 [] []) else .mk 0 0 [] []
def nrmK (n : Nat) (f : FT) : Int := if cc n f = 0 then (if (normF n f true).isSome = true then 0 else 3) else cc n f
theorem cc_in (n : Nat) (f : FT) : 0 ≤ cc n f ∧ cc n f ≤ 16 := by
  unfold cc ccV
  split
  · omega
  · split
    · omega
    · split <;> omega
theorem cc_sound {n : Nat} {f : FT} (h : cc n f = 0) : dep n f ≤ 64 ∧ siz n f ≤ 4096 ∧ sndF n f = true := by
  unfold cc ccV at h
  split at h
  · omega
  · split at h
    · omega
    · split at h
      · exact ⟨by omega, by omega, by assumption⟩
      · omega
theorem nrmK_in (n : Nat) (f : FT) : 0 ≤ nrmK n f ∧ nrmK n f ≤ 16 := by
  unfold nrmK
  split
  · split <;> omega
  · exact cc_in n f

set_option maxRecDepth 100000 in
set_option maxHeartbeats 2000000 in
theorem nnorm_bad (k c K : Int) (a ka : Option Addr) (n cap kn kcap : Nat) (w : World)
    (HC : ∀ W, Below w.heap.size w W → Calls Try.prog 34 #[.agg #[.int .i64 k, .int .i64 c, .slice a n cap, .slice ka kn kcap]] W fun e w' => e = .returned (.iface 53 (.int .i64 K)) ∧ Below W.heap.size W w') :
    Calls Try.prog 15 #[.agg #[.int .i64 k, .int .i64 c, .slice a n cap, .slice ka kn kcap]] w (Ans w.heap.size 2 (.mk 0 0 [] []) (.iface 53 (.int .i64 K)) w) := by
  have HCH := Lib.hid HC
  clear HC
  have n3 := fun W => Try.neCode K W
  have SZ : Hid (w.heap.size + 2 = ((w.alloc (.cells #[.int .i64 k, .int .i64 c, .slice a n cap, .slice ka kn kcap] 28)).alloc (.cells #[.int .i64 0, .int .i64 0, .slice none 0 0, .slice none 0 0] 28)).heap.size) := by show _ = _; simp
  have ST := Lib.hid (args_start w k c a ka n cap kn kcap)
  obtain ⟨-, p0, p1, p2, p3, -⟩ := ST.out.1
  generalize hW : (w.alloc (.cells #[.int .i64 k, .int .i64 c, .slice a n cap, .slice ka kn kcap] 28)).alloc (.cells #[.int .i64 0, .int .i64 0, .slice none 0 0, .slice none 0 0] 28) = W0 at ST SZ p0 p1 p2 p3
  go_enter Try.func15, Try.ntmps15
  go_wp2_with fail
  clear hW
  refine (HCH.out _ ST.out.1.bel).mono ?_
  rintro e w3 ⟨rfl, hb3⟩
  have hz3 := hb3.size
  have hz := SZ.out
  have B3 := Lib.hid (ST.out.1.bel.trans (hb3.mono (by omega)))
  have F3 := Lib.hid (ST.out.2.below hb3 (by omega))
  have X3 := Lib.hid (ST.out.1.below hb3 (by omega))
  have Z3 : w.heap.size + 2 ≤ w3.heap.size := by omega
  clear hb3 hz3 hz p0 p1 p2 p3
  have RT := Lib.hid (ret_set (m := 2) (f := .mk 0 0 [] []) (S := fun _ => False) F3.out B3.out flies_flat (fun b h => h.elim))
  obtain ⟨r0, r1, r2, r3, rf⟩ := F3.out
  go_wp2_with fail
  clear r0 r1 r2 r3 rf
  refine bodyPost_ret (v := .tuple #[.agg #[.int .i64 0, .int .i64 0, .slice none 0 0, .slice none 0 0], .iface 53 (.int .i64 K)]) ?_ rfl ⟨_, rfl, RT.out.lies, RT.out.bel⟩
  obtain ⟨_, _, e0, e1, e2, e3⟩ := RT.out
  simp [results, Try.results15, go_sem, e0, e1, e2, e3]

set_option maxRecDepth 100000 in
set_option maxHeartbeats 2000000 in
theorem nnorm_ok (k c : Int) (a ka : Option Addr) (n cap kn kcap : Nat) (m : Nat) (g : FT) (X : Value) (w : World)
    (HC : ∀ W, Below w.heap.size w W → Calls Try.prog 34 #[.agg #[.int .i64 k, .int .i64 c, .slice a n cap, .slice ka kn kcap]] W fun e w' => e = .returned .nilIface ∧ Below W.heap.size W w')
    (HN : ∀ W, Below w.heap.size w W → Calls Try.prog 35 #[.agg #[.int .i64 k, .int .i64 c, .slice a n cap, .slice ka kn kcap], .bool true] W (Ans W.heap.size m g X W)) :
    Calls Try.prog 15 #[.agg #[.int .i64 k, .int .i64 c, .slice a n cap, .slice ka kn kcap]] w (Ans w.heap.size m g X w) := by
  have HCH := Lib.hid HC
  have HNH := Lib.hid HN
  clear HC HN
  have n0 := fun W => Try.neNil W
  have SZ : Hid (w.heap.size + 2 = ((w.alloc (.cells #[.int .i64 k, .int .i64 c, .slice a n cap, .slice ka kn kcap] 28)).alloc (.cells #[.int .i64 0, .int .i64 0, .slice none 0 0, .slice none 0 0] 28)).heap.size) := by show _ = _; simp
  have ST := Lib.hid (args_start w k c a ka n cap kn kcap)
  obtain ⟨-, p0, p1, p2, p3, -⟩ := ST.out.1
  generalize hW : (w.alloc (.cells #[.int .i64 k, .int .i64 c, .slice a n cap, .slice ka kn kcap] 28)).alloc (.cells #[.int .i64 0, .int .i64 0, .slice none 0 0, .slice none 0 0] 28) = W0 at ST SZ p0 p1 p2 p3
  go_enter Try.func15, Try.ntmps15
  go_wp2_with fail
  clear hW
  refine (HCH.out _ ST.out.1.bel).mono ?_
  rintro e w3 ⟨rfl, hb3⟩
  have hz3 := hb3.size
  have hz := SZ.out
  have B3 := Lib.hid (ST.out.1.bel.trans (hb3.mono (by omega)))
  have F3 := Lib.hid (ST.out.2.below hb3 (by omega))
  have X3 := Lib.hid (ST.out.1.below hb3 (by omega))
  have Z3 : w.heap.size + 2 ≤ w3.heap.size := by omega
  clear hb3 hz3 hz p0 p1 p2 p3
  obtain ⟨-, q0, q1, q2, q3, -⟩ := X3.out
  go_wp2_with fail
  clear q0 q1 q2 q3
  refine (HNH.out _ B3.out).mono ?_
  rintro e w5 ⟨cs5, rfl, hf5, hb5⟩
  have HF5 := Lib.hid hf5
  obtain ⟨dk, dc, ua, un, ucap, va, vn, vcap, rfl⟩ := hf5.form
  have hz5 := hb5.size
  have F5 := Lib.hid (F3.out.below hb5 (by omega))
  have RT := Lib.hid (ret_set F5.out (B3.out.trans (hb5.mono (by omega))) HF5.out (fun b ⟨h1, h2⟩ => ⟨by omega, by omega, h2⟩))
  clear hf5 hb5
  obtain ⟨r0, r1, r2, r3, rf⟩ := F5.out
  go_wp2_with fail
  clear r0 r1 r2 r3 rf
  refine bodyPost_ret (v := .tuple #[.agg #[.int .i64 dk, .int .i64 dc, .slice ua un ucap, .slice va vn vcap], X]) ?_ rfl ⟨_, rfl, RT.out.lies, RT.out.bel⟩
  obtain ⟨_, _, e0, e1, e2, e3⟩ := RT.out
  simp [results, Try.results15, go_sem, e0, e1, e2, e3]

set_option maxRecDepth 100000 in
set_option maxHeartbeats 2000000 in
theorem rnorm_bad (k c K : Int) (hK : K ≠ 0) (a ka : Option Addr) (n cap kn kcap : Nat) (w : World)
    (HC : ∀ W, Below w.heap.size w W → Calls Try.prog 36 #[.agg #[.int .i64 k, .int .i64 c, .slice a n cap, .slice ka kn kcap]] W fun e w' => e = .returned (.int .i64 K) ∧ Below W.heap.size W w') :
    Calls Try.prog 16 #[.agg #[.int .i64 k, .int .i64 c, .slice a n cap, .slice ka kn kcap]] w (Ans w.heap.size 2 (.mk 0 0 [] []) (.int .i64 K) w) := by
  have HCH := Lib.hid HC
  clear HC
  have SZ : Hid (w.heap.size + 2 = ((w.alloc (.cells #[.int .i64 k, .int .i64 c, .slice a n cap, .slice ka kn kcap] 28)).alloc (.cells #[.int .i64 0, .int .i64 0, .slice none 0 0, .slice none 0 0] 28)).heap.size) := by show _ = _; simp
  have ST := Lib.hid (args_start w k c a ka n cap kn kcap)
  obtain ⟨-, p0, p1, p2, p3, -⟩ := ST.out.1
  generalize hW : (w.alloc (.cells #[.int .i64 k, .int .i64 c, .slice a n cap, .slice ka kn kcap] 28)).alloc (.cells #[.int .i64 0, .int .i64 0, .slice none 0 0, .slice none 0 0] 28) = W0 at ST SZ p0 p1 p2 p3
  go_enter Try.func16, Try.ntmps16
  go_wp2_with fail
  clear hW
  refine (HCH.out _ ST.out.1.bel).mono ?_
  rintro e w3 ⟨rfl, hb3⟩
  have hz3 := hb3.size
  have hz := SZ.out
  have B3 := Lib.hid (ST.out.1.bel.trans (hb3.mono (by omega)))
  have F3 := Lib.hid (ST.out.2.below hb3 (by omega))
  have X3 := Lib.hid (ST.out.1.below hb3 (by omega))
  have Z3 : w.heap.size + 2 ≤ w3.heap.size := by omega
  clear hb3 hz3 hz p0 p1 p2 p3
  have RT := Lib.hid (ret_set (m := 2) (f := .mk 0 0 [] []) (S := fun _ => False) F3.out B3.out flies_flat (fun b h => h.elim))
  obtain ⟨r0, r1, r2, r3, rf⟩ := F3.out
  go_wp2_with fail
  clear r0 r1 r2 r3 rf
  refine bodyPost_ret (v := .tuple #[.agg #[.int .i64 0, .int .i64 0, .slice none 0 0, .slice none 0 0], .int .i64 K]) ?_ rfl ⟨_, rfl, RT.out.lies, RT.out.bel⟩
  obtain ⟨_, _, e0, e1, e2, e3⟩ := RT.out
  simp [results, Try.results16, go_sem, e0, e1, e2, e3]

set_option maxRecDepth 100000 in
set_option maxHeartbeats 2000000 in
theorem rnorm_true (k c : Int) (a ka : Option Addr) (n cap kn kcap : Nat) (m : Nat) (g : FT) (w : World)
    (HC : ∀ W, Below w.heap.size w W → Calls Try.prog 36 #[.agg #[.int .i64 k, .int .i64 c, .slice a n cap, .slice ka kn kcap]] W fun e w' => e = .returned (.int .i64 0) ∧ Below W.heap.size W w')
    (HN : ∀ W, Below w.heap.size w W → Calls Try.prog 37 #[.agg #[.int .i64 k, .int .i64 c, .slice a n cap, .slice ka kn kcap], .bool false] W (Ans W.heap.size m g (.bool true) W)) :
    Calls Try.prog 16 #[.agg #[.int .i64 k, .int .i64 c, .slice a n cap, .slice ka kn kcap]] w (Ans w.heap.size m g (.int .i64 0) w) := by
  have HCH := Lib.hid HC
  have HNH := Lib.hid HN
  clear HC HN
  have SZ : Hid (w.heap.size + 2 = ((w.alloc (.cells #[.int .i64 k, .int .i64 c, .slice a n cap, .slice ka kn kcap] 28)).alloc (.cells #[.int .i64 0, .int .i64 0, .slice none 0 0, .slice none 0 0] 28)).heap.size) := by show _ = _; simp
  have ST := Lib.hid (args_start w k c a ka n cap kn kcap)
  obtain ⟨-, p0, p1, p2, p3, -⟩ := ST.out.1
  generalize hW : (w.alloc (.cells #[.int .i64 k, .int .i64 c, .slice a n cap, .slice ka kn kcap] 28)).alloc (.cells #[.int .i64 0, .int .i64 0, .slice none 0 0, .slice none 0 0] 28) = W0 at ST SZ p0 p1 p2 p3
  go_enter Try.func16, Try.ntmps16
  go_wp2_with fail
  clear hW
  refine (HCH.out _ ST.out.1.bel).mono ?_
  rintro e w3 ⟨rfl, hb3⟩
  have hz3 := hb3.size
  have hz := SZ.out
  have B3 := Lib.hid (ST.out.1.bel.trans (hb3.mono (by omega)))
  have F3 := Lib.hid (ST.out.2.below hb3 (by omega))
  have X3 := Lib.hid (ST.out.1.below hb3 (by omega))
  have Z3 : w.heap.size + 2 ≤ w3.heap.size := by omega
  clear hb3 hz3 hz p0 p1 p2 p3
  obtain ⟨-, q0, q1, q2, q3, -⟩ := X3.out
  go_wp2_with fail
  clear q0 q1 q2 q3
  refine (HNH.out _ B3.out).mono ?_
  rintro e w5 ⟨cs5, rfl, hf5, hb5⟩
  have HF5 := Lib.hid hf5
  obtain ⟨dk, dc, ua, un, ucap, va, vn, vcap, rfl⟩ := hf5.form
  have hz5 := hb5.size
  have hba6 : Below w5.heap.size w5 (w5.alloc (.cells #[.int .i64 dk, .int .i64 dc, .slice ua un ucap, .slice va vn vcap] 28)) := (Below.refl _ _).alloc (Nat.le_refl _) _
  have hz6 := hba6.size
  have hb6 : Below w3.heap.size w3 (w5.alloc (.cells #[.int .i64 dk, .int .i64 dc, .slice ua un ucap, .slice va vn vcap] 28)) := hb5.trans (hba6.mono hz5)
  have F6 := Lib.hid (F3.out.below hb6 (by omega))
  have RT := Lib.hid (ret_set F6.out (B3.out.trans (hb6.mono (by omega))) (HF5.out.keep (S' := fun b => w3.heap.size ≤ b ∧ b < w5.heap.size) (fun _ h => h) (fun b o ⟨h1, h2⟩ => hba6.cell (p := ⟨b, o, none⟩) h2)) (fun b ⟨h1, h2⟩ => ⟨by omega, by omega, by omega⟩))
  obtain ⟨t0, t1, t2, t3⟩ := form_cells (heap_alloc_new w5 (.cells #[.int .i64 dk, .int .i64 dc, .slice ua un ucap, .slice va vn vcap] 28))
  clear hf5 hb5 hba6 hb6 hz5 hz6
  obtain ⟨r0, r1, r2, r3, rf⟩ := F6.out
  go_wp2_with fail
  clear r0 r1 r2 r3 rf t0 t1 t2 t3
  refine bodyPost_ret (v := .tuple #[.agg #[.int .i64 dk, .int .i64 dc, .slice ua un ucap, .slice va vn vcap], .int .i64 0]) ?_ rfl ⟨_, rfl, RT.out.lies, RT.out.bel⟩
  obtain ⟨_, _, e0, e1, e2, e3⟩ := RT.out
  simp [results, Try.results16, go_sem, e0, e1, e2, e3]

set_option maxRecDepth 100000 in
set_option maxHeartbeats 2000000 in
theorem rnorm_false (k c : Int) (a ka : Option Addr) (n cap kn kcap : Nat) (m : Nat) (g : FT) (w : World)
    (HC : ∀ W, Below w.heap.size w W → Calls Try.prog 36 #[.agg #[.int .i64 k, .int .i64 c, .slice a n cap, .slice ka kn kcap]] W fun e w' => e = .returned (.int .i64 0) ∧ Below W.heap.size W w')
    (HN : ∀ W, Below w.heap.size w W → Calls Try.prog 37 #[.agg #[.int .i64 k, .int .i64 c, .slice a n cap, .slice ka kn kcap], .bool false] W (Ans W.heap.size m g (.bool false) W)) :
    Calls Try.prog 16 #[.agg #[.int .i64 k, .int .i64 c, .slice a n cap, .slice ka kn kcap]] w (Ans w.heap.size 2 (.mk 0 0 [] []) (.int .i64 3) w) := by
  have HCH := Lib.hid HC
  have HNH := Lib.hid HN
  clear HC HN
  have SZ : Hid (w.heap.size + 2 = ((w.alloc (.cells #[.int .i64 k, .int .i64 c, .slice a n cap, .slice ka kn kcap] 28)).alloc (.cells #[.int .i64 0, .int .i64 0, .slice none 0 0, .slice none 0 0] 28)).heap.size) := by show _ = _; simp
  have ST := Lib.hid (args_start w k c a ka n cap kn kcap)
  obtain ⟨-, p0, p1, p2, p3, -⟩ := ST.out.1
  generalize hW : (w.alloc (.cells #[.int .i64 k, .int .i64 c, .slice a n cap, .slice ka kn kcap] 28)).alloc (.cells #[.int .i64 0, .int .i64 0, .slice none 0 0, .slice none 0 0] 28) = W0 at ST SZ p0 p1 p2 p3
  go_enter Try.func16, Try.ntmps16
  go_wp2_with fail
  clear hW
  refine (HCH.out _ ST.out.1.bel).mono ?_
  rintro e w3 ⟨rfl, hb3⟩
  have hz3 := hb3.size
  have hz := SZ.out
  have B3 := Lib.hid (ST.out.1.bel.trans (hb3.mono (by omega)))
  have F3 := Lib.hid (ST.out.2.below hb3 (by omega))
  have X3 := Lib.hid (ST.out.1.below hb3 (by omega))
  have Z3 : w.heap.size + 2 ≤ w3.heap.size := by omega
  clear hb3 hz3 hz p0 p1 p2 p3
  obtain ⟨-, q0, q1, q2, q3, -⟩ := X3.out
  go_wp2_with fail
  clear q0 q1 q2 q3
  refine (HNH.out _ B3.out).mono ?_
  rintro e w5 ⟨cs5, rfl, hf5, hb5⟩
  have HF5 := Lib.hid hf5
  obtain ⟨dk, dc, ua, un, ucap, va, vn, vcap, rfl⟩ := hf5.form
  have hz5 := hb5.size
  have hba6 : Below w5.heap.size w5 (w5.alloc (.cells #[.int .i64 dk, .int .i64 dc, .slice ua un ucap, .slice va vn vcap] 28)) := (Below.refl _ _).alloc (Nat.le_refl _) _
  have hz6 := hba6.size
  have hb6 : Below w3.heap.size w3 (w5.alloc (.cells #[.int .i64 dk, .int .i64 dc, .slice ua un ucap, .slice va vn vcap] 28)) := hb5.trans (hba6.mono hz5)
  have F6 := Lib.hid (F3.out.below hb6 (by omega))
  have RT := Lib.hid (ret_set (m := 2) (f := .mk 0 0 [] []) (S := fun _ => False) F6.out (B3.out.trans (hb6.mono (by omega))) flies_flat (fun b h => h.elim))
  obtain ⟨t0, t1, t2, t3⟩ := form_cells (heap_alloc_new w5 (.cells #[.int .i64 dk, .int .i64 dc, .slice ua un ucap, .slice va vn vcap] 28))
  clear hf5 hb5 hba6 hb6 hz5 hz6
  obtain ⟨r0, r1, r2, r3, rf⟩ := F6.out
  go_wp2_with fail
  clear r0 r1 r2 r3 rf t0 t1 t2 t3
  refine bodyPost_ret (v := .tuple #[.agg #[.int .i64 0, .int .i64 0, .slice none 0 0, .slice none 0 0], .int .i64 3]) ?_ rfl ⟨_, rfl, RT.out.lies, RT.out.bel⟩
  obtain ⟨_, _, e0, e1, e2, e3⟩ := RT.out
  simp [results, Try.results16, go_sem, e0, e1, e2, e3]

/-- Normalizing, by the program and by the document: one formula, one code. -/
theorem norm_both (n : Nat) (f : FT) (cs : List Value) (w : World) (hlit : litF n f) (h : FLies w.heap.size w n f cs) :
    Calls Try.prog 15 #[.agg cs.toArray] w (Ans w.heap.size (n + 2) (nrmT n f) (codeV (nrmK n f)) w) ∧
    Calls Try.prog 16 #[.agg cs.toArray] w (Ans w.heap.size (n + 2) (nrmT n f) (.int .i64 (nrmK n f)) w) := by
  have FL := fun W (hb : Below w.heap.size w W) => (h.below hb).mono hb.size
  have C1 := fun W (hb : Below w.heap.size w W) => fcheck_any n f _ W (FL W hb)
  have C2 := fun W (hb : Below w.heap.size w W) => rfcheck_any n f _ W (FL W hb)
  have hform : ∃ (k c : Int) (a : Option Addr) (m cap : Nat) (ka : Option Addr) (kn kcap : Nat), cs = [.int .i64 k, .int .i64 c, .slice a m cap, .slice ka kn kcap] := by
    cases n with
    | zero => exact h.elim
    | succ n =>
      obtain ⟨ta, tcap, ka, kcap, rfl, _⟩ := h
      exact ⟨_, _, _, _, _, _, _, _, rfl⟩
  obtain ⟨k, c, a, m, cap, ka, kn, kcap, rfl⟩ := hform
  unfold nrmT nrmK
  by_cases h0 : cc n f = 0
  · obtain ⟨_, _, hs⟩ := cc_sound h0
    rw [if_pos h0, if_pos h0]
    rw [h0] at C1 C2
    have N1 := fun W (hb : Below w.heap.size w W) => nrm_any n f true _ W hs hlit (FL W hb)
    have N2 := fun W (hb : Below w.heap.size w W) => rnrm_any n f false _ W hs hlit (FL W hb)
    rw [show (!false) = true from rfl] at N2
    cases ho : normF n f true with
    | none =>
      rw [ho] at N1 N2
      exact ⟨nnorm_ok k c a ka m cap kn kcap (n + 2) _ _ w C1 N1, (rnorm_false k c a ka m cap kn kcap (n + 2) _ w C2 N2).mono fun _ _ h => h.up (by omega)⟩
    | some g =>
      rw [ho] at N1 N2
      exact ⟨nnorm_ok k c a ka m cap kn kcap (n + 2) _ _ w C1 N1, rnorm_true k c a ka m cap kn kcap (n + 2) _ w C2 N2⟩
  · rw [if_neg h0, if_neg h0]
    have e : codeV (cc n f) = .iface 53 (.int .i64 (cc n f)) := by unfold codeV; rw [if_neg h0]
    rw [e] at C1 ⊢
    exact ⟨(nnorm_bad k c _ a ka m cap kn kcap w C1).mono fun _ _ h => h.up (by omega), (rnorm_bad k c _ h0 a ka m cap kn kcap w C2).mono fun _ _ h => h.up (by omega)⟩
end Go.Proofs.Ytknagcednppokaa

namespace Go.Proofs.Ytknagcednppokaa
open Go.RowKit

set_option maxHeartbeats 1000000 in
theorem nsmallL_any (n : Nat) (f : FT) (cs : List Value) (w : World) (h : FLies w.heap.size w n f cs) :
    Calls Try.prog 14 #[.agg cs.toArray] w fun e w' => ∃ b : Bool, e = .returned (.bool b) ∧ (b = true → litF n f) ∧ Below w.heap.size w w' := by
  have FL := fun W (hb : Below w.heap.size w W) => (h.below hb).mono hb.size
  cases n with
  | zero => exact h.elim
  | succ n =>
    obtain ⟨ta, tcap, ka, kcap, rfl, _⟩ := h
    have T0 := Lib.hid (box_start w f.kind f.c ta ka f.t.length tcap f.ks.length kcap)
    have hl := Lib.hid (fun W hb => lit_any (n + 1) f _ 30000 200 W (by omega) (by omega) (by omega) (by omega) (FL W hb))
    clear FL
    generalize litF (n + 1) f = L at hl ⊢
    generalize f.kind = fk at T0 hl
    generalize f.c = fc at T0 hl
    generalize f.t.length = ft at T0 hl
    generalize f.ks.length = fl at T0 hl
    go_enter Try.func14, Try.ntmps14
    go_wp2_with fail
    refine (hl.out _ T0.out.bel).mono ?_
    rintro e w1 ⟨v, rfl, hv1, hv2, hL, hb1⟩
    have HL := Lib.hid hL
    have T1 := Lib.hid (T0.out.below hb1 T0.out.lt)
    clear hb1 hL
    go_wp2_with fail
    go_ret
    exact ⟨_, rfl, fun h => HL.out (by simpa using h), T1.out.bel⟩

set_option maxRecDepth 100000 in
set_option maxHeartbeats 2000000 in
theorem normForms_any (hup : UpSaid3) (n : Nat) (f : FT) (cs : List Value) (w : World) (h : FLies w.heap.size w n f cs) :
    Calls Try.prog 4 #[.agg cs.toArray] w fun e w' => e = .returned (.bool true) ∧ Below w.heap.size w w' := by
  have FL := fun W (hb : Below w.heap.size w W) => (h.below hb).mono hb.size
  cases n with
  | zero => exact h.elim
  | succ n =>
    obtain ⟨ta, tcap, ka, kcap, rfl, _⟩ := h
    have hsm := Lib.hid (fun W hb => nsmallL_any (n + 1) f _ W (FL W hb))
    have hnb := Lib.hid (fun (hl : litF (n + 1) f) W hb => norm_both (n + 1) f _ W hl (FL W hb))
    have T0 := Lib.hid (box_start w f.kind f.c ta ka f.t.length tcap f.ks.length kcap)
    have HCD : Hid (∀ W, Calls Try.prog 13 #[codeV (nrmK (n + 1) f)] W fun e w' => e = .returned (.int .i64 (nrmK (n + 1) f)) ∧ W = w') := fun W => by
      have hk := nrmK_in (n + 1) f
      unfold codeV
      by_cases h0 : nrmK (n + 1) f = 0
      · rw [if_pos h0, h0]; exact code_nil W
      · rw [if_neg h0]; exact code_k _ W (by omega) (by omega)
    clear FL
    generalize litF (n + 1) f = L at hsm hnb
    generalize hx : codeV (nrmK (n + 1) f) = x at hnb HCD
    clear hx
    generalize nrmK (n + 1) f = K at hnb HCD
    generalize nrmT (n + 1) f = g at hnb
    generalize f.kind = fk at T0 hsm hnb
    generalize f.c = fc at T0 hsm hnb
    generalize f.t.length = ft at T0 hsm hnb
    generalize f.ks.length = fl at T0 hsm hnb
    go_enter Try.func4, Try.ntmps4
    go_wp2_with fail
    refine (hup _).mono ?_
    rintro e w1 ⟨rfl, hb1⟩
    have T1 := Lib.hid (T0.out.below hb1 T0.out.lt)
    clear hb1
    obtain ⟨l1, p0, p1, p2, p3, _⟩ := T1.out
    go_wp2_with fail
    refine (hsm.out _ T1.out.bel).mono ?_
    rintro e w2 ⟨b, rfl, hL, hb2⟩
    have T2 := Lib.hid (T1.out.below hb2 T1.out.lt)
    clear hb2 l1 p0 p1 p2 p3
    cases b
    · clear hL
      go_wp2_with fail
      go_ret
      exact ⟨rfl, T2.out.bel⟩
    · have HL := Lib.hid (hL rfl)
      clear hL
      obtain ⟨l2, p0, p1, p2, p3, -⟩ := T2.out
      go_wp2_with fail
      refine (hnb.out HL.out _ T2.out.bel).1.mono ?_
      rintro e w3 ⟨cs3, rfl, hfS3, hb3⟩
      have HF3 := Lib.hid (hfS3.lies (B := w3.heap.size) (fun b h => h.2))
      obtain ⟨ak, ac, aa, an, acap, ba, bn, bcap, rfl⟩ := hfS3.form
      have hz3 := hb3.size
      have hba : Below w3.heap.size w3 (w3.alloc (.cells #[.int .i64 ak, .int .i64 ac, .slice aa an acap, .slice ba bn bcap] 28)) := (Below.refl _ _).alloc (Nat.le_refl _) _
      have hb4 : Below w2.heap.size w2 (w3.alloc (.cells #[.int .i64 ak, .int .i64 ac, .slice aa an acap, .slice ba bn bcap] 28)) := hb3.trans (hba.mono hz3)
      have T4 := Lib.hid (T2.out.below hb4 l2)
      have HN4 := Lib.hid (heap_alloc_new w3 (.cells #[.int .i64 ak, .int .i64 ac, .slice aa an acap, .slice ba bn bcap] 28))
      have HF4 := Lib.hid ((HF3.out.below hba).mono hba.size)
      clear hb3 hba hb4 hfS3 p0 p1 p2 p3 HF3
      obtain ⟨l4, p0, p1, p2, p3, -⟩ := T4.out
      go_wp2_with fail
      have Z4 := lt_of_some HN4.out
      clear p0 p1 p2 p3
      generalize w3.alloc (.cells #[.int .i64 ak, .int .i64 ac, .slice aa an acap, .slice ba bn bcap] 28) = w4 at T4 HN4 HF4 Z4 l4 ⊢
      generalize w3.heap.size = N3 at HN4 Z4 hz3 ⊢
      refine (hnb.out HL.out _ T4.out.bel).2.mono ?_
      rintro e w5 ⟨cs5, rfl, hfS5, hb5⟩
      have HF5 := Lib.hid (hfS5.lies (B := w5.heap.size) (fun b h => h.2))
      obtain ⟨ek, ec, ea, en, ecap, da, dn, dcap, rfl⟩ := hfS5.form
      have hz5 := hb5.size
      have hbb : Below w5.heap.size w5 (w5.alloc (.cells #[.int .i64 ek, .int .i64 ec, .slice ea en ecap, .slice da dn dcap] 28)) := (Below.refl _ _).alloc (Nat.le_refl _) _
      have hb6 : Below w4.heap.size w4 (w5.alloc (.cells #[.int .i64 ek, .int .i64 ec, .slice ea en ecap, .slice da dn dcap] 28)) := hb5.trans (hbb.mono hz5)
      have B6 := Lib.hid (T4.out.bel.trans (hb6.mono (Nat.le_of_lt l4)))
      obtain ⟨t0, t1, t2, t3⟩ := form_cells ((hb6.block _ Z4).trans HN4.out)
      obtain ⟨v0, v1, v2, v3⟩ := form_cells (heap_alloc_new w5 (.cells #[.int .i64 ek, .int .i64 ec, .slice ea en ecap, .slice da dn dcap] 28))
      have HSM := Lib.hid (same2_any (n + 1 + 2) g _ _ _ ((HF4.out.below hb6).mono hb6.size) ((HF5.out.below hbb).mono hbb.size))
      have Z6 : w.heap.size ≤ (w5.alloc (.cells #[.int .i64 ek, .int .i64 ec, .slice ea en ecap, .slice da dn dcap] 28)).heap.size := B6.out.size
      clear hb5 hbb hb6 hfS5
      go_wp2_with fail
      refine HSM.out.mono ?_
      rintro e w7 ⟨rfl, hb7⟩
      have B7 := Lib.hid (B6.out.trans (hb7.mono Z6))
      clear hb7 t0 t1 t2 t3 v0 v1 v2 v3
      go_wp2_with fail
      refine (HCD.out _).mono ?_
      rintro e w8 ⟨rfl, rfl⟩
      go_wp2_with fail
      go_ret
      exact ⟨rfl, B7.out⟩
end Go.Proofs.Ytknagcednppokaa
