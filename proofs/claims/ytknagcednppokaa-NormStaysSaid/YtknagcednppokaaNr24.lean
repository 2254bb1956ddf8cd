/- The document's norm: kinds 0, 1, 2, 4. -/
import Derived.Test.YtknagcednppokaaNr23
set_option linter.unusedVariables false
set_option linter.unusedSimpArgs false
namespace Go.Proofs.Ytknagcednppokaa
open Go.RowKit

theorem flies_empty {S : Nat → Prop} {w : World} {k : Int} {a ka : Option Addr} {cap kcap : Nat} : FLiesS S w 2 (.mk k 0 [] []) [.int .i64 k, .int .i64 0, .slice a 0 cap, .slice ka 0 kcap] :=
  ⟨a, cap, ka, kcap, rfl, fun i hi => absurd hi (Nat.not_lt_zero i), by simp [FT.t], by simp [FT.ks], fun i hi => absurd hi (by simp [FT.ks])⟩
theorem fb_four {W : World} {N M : Nat} (h : FB W N) (hne : N ≠ M) (x0 x1 x2 x3 : Value) : FB ((((W.setCell ⟨M, 0, none⟩ x0).setCell ⟨M, 1, none⟩ x1).setCell ⟨M, 2, none⟩ x2).setCell ⟨M, 3, none⟩ x3) N := by
  obtain ⟨r0, r1, r2, r3, rf⟩ := h
  exact ⟨(set4_far W M x0 x1 x2 x3 N _ hne).trans r0, (set4_far W M x0 x1 x2 x3 N _ hne).trans r1, (set4_far W M x0 x1 x2 x3 N _ hne).trans r2, (set4_far W M x0 x1 x2 x3 N _ hne).trans r3, fun o => (set4_frozen W M x0 x1 x2 x3 _).trans (rf o)⟩

set_option maxRecDepth 100000 in
set_option maxHeartbeats 2000000 in
theorem rn_k0y (a ka : Option Addr) (cap kcap : Nat) (w : World) :
    Calls Try.prog 37 #[.agg #[.int .i64 0, .int .i64 0, .slice a 0 cap, .slice ka 0 kcap], .bool false] w (Ans w.heap.size 2 (.mk 0 0 [] []) (.bool true) w) := by
  have SZ : Hid (w.heap.size + 2 = ((w.alloc (.cells #[.int .i64 0, .int .i64 0, .slice a 0 cap, .slice ka 0 kcap] 28)).alloc (.cells #[.int .i64 0, .int .i64 0, .slice none 0 0, .slice none 0 0] 28)).heap.size) := by show _ = _; simp
  have ST := Lib.hid (args_start w 0 0 a ka 0 cap 0 kcap)
  obtain ⟨-, p0, p1, p2, p3, -⟩ := ST.out.1
  obtain ⟨r0, r1, r2, r3, rf⟩ := ST.out.2
  have RT := Lib.hid (ret_set (m := 2) (f := .mk 0 0 [] []) (x2 := .slice a 0 cap) (x3 := .slice ka 0 kcap) (S := fun _ => False) ST.out.2 ST.out.1.bel flies_empty (fun b h => h.elim))
  generalize hW : (w.alloc (.cells #[.int .i64 0, .int .i64 0, .slice a 0 cap, .slice ka 0 kcap] 28)).alloc (.cells #[.int .i64 0, .int .i64 0, .slice none 0 0, .slice none 0 0] 28) = W0 at ST SZ p0 p1 p2 p3 RT r0 r1 r2 r3 rf
  go_enter Try.func37, Try.ntmps37
  go_wp2_with fail
  clear hW
  clear r0 r1 r2 r3 rf p0 p1 p2 p3
  refine bodyPost_ret (v := .tuple #[.agg #[.int .i64 0, .int .i64 0, .slice a 0 cap, .slice ka 0 kcap], .bool true]) ?_ rfl ⟨_, rfl, RT.out.lies, RT.out.bel⟩
  obtain ⟨_, _, e0, e1, e2, e3⟩ := RT.out
  simp [results, Try.results37, go_sem, e0, e1, e2, e3]

set_option maxRecDepth 100000 in
set_option maxHeartbeats 2000000 in
theorem rn_k0n (a ka : Option Addr) (cap kcap : Nat) (w : World) :
    Calls Try.prog 37 #[.agg #[.int .i64 0, .int .i64 0, .slice a 0 cap, .slice ka 0 kcap], .bool true] w (Ans w.heap.size 2 (.mk 1 0 [] []) (.bool true) w) := by
  have HOP := Lib.hid (fun W => (opp_flat 0 (by omega) (fun _ => False) a ka cap kcap W).2)
  have SZ : Hid (w.heap.size + 2 = ((w.alloc (.cells #[.int .i64 0, .int .i64 0, .slice a 0 cap, .slice ka 0 kcap] 28)).alloc (.cells #[.int .i64 0, .int .i64 0, .slice none 0 0, .slice none 0 0] 28)).heap.size) := by show _ = _; simp
  have ST := Lib.hid (args_start w 0 0 a ka 0 cap 0 kcap)
  obtain ⟨-, p0, p1, p2, p3, -⟩ := ST.out.1
  generalize hW : (w.alloc (.cells #[.int .i64 0, .int .i64 0, .slice a 0 cap, .slice ka 0 kcap] 28)).alloc (.cells #[.int .i64 0, .int .i64 0, .slice none 0 0, .slice none 0 0] 28) = W0 at ST SZ p0 p1 p2 p3
  go_enter Try.func37, Try.ntmps37
  go_wp2_with fail
  clear hW
  refine (HOP.out _).mono ?_
  rintro e w3 ⟨cs3, rfl, hf3, hb3⟩
  have HF3 := Lib.hid hf3
  obtain ⟨dk, dc, ta, tn, tcap, va, vn, vcap, rfl⟩ := hf3.form
  have hz3 := hb3.size
  have hz := SZ.out
  have F3 := Lib.hid (ST.out.2.below hb3 (by omega))
  have RT := Lib.hid (ret_set F3.out (ST.out.1.bel.trans (hb3.mono (by omega))) HF3.out (fun b hb => by rcases hb with hb | ⟨h1, h2⟩; exact hb.elim; exact ⟨by omega, by omega, h2⟩))
  clear p0 p1 p2 p3 hf3 hb3 hz3 hz
  obtain ⟨r0, r1, r2, r3, rf⟩ := F3.out
  go_wp2_with fail
  clear r0 r1 r2 r3 rf
  refine bodyPost_ret (v := .tuple #[.agg #[.int .i64 dk, .int .i64 dc, .slice ta tn tcap, .slice va vn vcap], .bool true]) ?_ rfl ⟨_, rfl, RT.out.lies, RT.out.bel⟩
  obtain ⟨_, _, e0, e1, e2, e3⟩ := RT.out
  simp [results, Try.results37, go_sem, e0, e1, e2, e3]

set_option maxRecDepth 100000 in
set_option maxHeartbeats 2000000 in
theorem rn_k1y (a ka : Option Addr) (cap kcap : Nat) (w : World) :
    Calls Try.prog 37 #[.agg #[.int .i64 1, .int .i64 0, .slice a 0 cap, .slice ka 0 kcap], .bool false] w (Ans w.heap.size 2 (.mk 1 0 [] []) (.bool true) w) := by
  have SZ : Hid (w.heap.size + 2 = ((w.alloc (.cells #[.int .i64 1, .int .i64 0, .slice a 0 cap, .slice ka 0 kcap] 28)).alloc (.cells #[.int .i64 0, .int .i64 0, .slice none 0 0, .slice none 0 0] 28)).heap.size) := by show _ = _; simp
  have ST := Lib.hid (args_start w 1 0 a ka 0 cap 0 kcap)
  obtain ⟨-, p0, p1, p2, p3, -⟩ := ST.out.1
  obtain ⟨r0, r1, r2, r3, rf⟩ := ST.out.2
  have RT := Lib.hid (ret_set (m := 2) (f := .mk 1 0 [] []) (x2 := .slice a 0 cap) (x3 := .slice ka 0 kcap) (S := fun _ => False) ST.out.2 ST.out.1.bel flies_empty (fun b h => h.elim))
  generalize hW : (w.alloc (.cells #[.int .i64 1, .int .i64 0, .slice a 0 cap, .slice ka 0 kcap] 28)).alloc (.cells #[.int .i64 0, .int .i64 0, .slice none 0 0, .slice none 0 0] 28) = W0 at ST SZ p0 p1 p2 p3 RT r0 r1 r2 r3 rf
  go_enter Try.func37, Try.ntmps37
  go_wp2_with fail
  clear hW
  clear r0 r1 r2 r3 rf p0 p1 p2 p3
  refine bodyPost_ret (v := .tuple #[.agg #[.int .i64 1, .int .i64 0, .slice a 0 cap, .slice ka 0 kcap], .bool true]) ?_ rfl ⟨_, rfl, RT.out.lies, RT.out.bel⟩
  obtain ⟨_, _, e0, e1, e2, e3⟩ := RT.out
  simp [results, Try.results37, go_sem, e0, e1, e2, e3]

set_option maxRecDepth 100000 in
set_option maxHeartbeats 2000000 in
theorem rn_k1n (a ka : Option Addr) (cap kcap : Nat) (w : World) :
    Calls Try.prog 37 #[.agg #[.int .i64 1, .int .i64 0, .slice a 0 cap, .slice ka 0 kcap], .bool true] w (Ans w.heap.size 2 (.mk 0 0 [] []) (.bool true) w) := by
  have HOP := Lib.hid (fun W => (opp_flat 1 (by omega) (fun _ => False) a ka cap kcap W).2)
  have SZ : Hid (w.heap.size + 2 = ((w.alloc (.cells #[.int .i64 1, .int .i64 0, .slice a 0 cap, .slice ka 0 kcap] 28)).alloc (.cells #[.int .i64 0, .int .i64 0, .slice none 0 0, .slice none 0 0] 28)).heap.size) := by show _ = _; simp
  have ST := Lib.hid (args_start w 1 0 a ka 0 cap 0 kcap)
  obtain ⟨-, p0, p1, p2, p3, -⟩ := ST.out.1
  generalize hW : (w.alloc (.cells #[.int .i64 1, .int .i64 0, .slice a 0 cap, .slice ka 0 kcap] 28)).alloc (.cells #[.int .i64 0, .int .i64 0, .slice none 0 0, .slice none 0 0] 28) = W0 at ST SZ p0 p1 p2 p3
  go_enter Try.func37, Try.ntmps37
  go_wp2_with fail
  clear hW
  refine (HOP.out _).mono ?_
  rintro e w3 ⟨cs3, rfl, hf3, hb3⟩
  have HF3 := Lib.hid hf3
  obtain ⟨dk, dc, ta, tn, tcap, va, vn, vcap, rfl⟩ := hf3.form
  have hz3 := hb3.size
  have hz := SZ.out
  have F3 := Lib.hid (ST.out.2.below hb3 (by omega))
  have RT := Lib.hid (ret_set F3.out (ST.out.1.bel.trans (hb3.mono (by omega))) HF3.out (fun b hb => by rcases hb with hb | ⟨h1, h2⟩; exact hb.elim; exact ⟨by omega, by omega, h2⟩))
  clear p0 p1 p2 p3 hf3 hb3 hz3 hz
  obtain ⟨r0, r1, r2, r3, rf⟩ := F3.out
  go_wp2_with fail
  clear r0 r1 r2 r3 rf
  refine bodyPost_ret (v := .tuple #[.agg #[.int .i64 dk, .int .i64 dc, .slice ta tn tcap, .slice va vn vcap], .bool true]) ?_ rfl ⟨_, rfl, RT.out.lies, RT.out.bel⟩
  obtain ⟨_, _, e0, e1, e2, e3⟩ := RT.out
  simp [results, Try.results37, go_sem, e0, e1, e2, e3]

set_option maxRecDepth 100000 in
set_option maxHeartbeats 2000000 in
theorem rn_k4 (c : Int) (a : Option Addr) (n cap kcap b off : Nat) (nt : Bool) (g : FT) (m : Nat) (x : Bool) (w : World) (hb : b < w.heap.size) (ck cc : Int) (ca : Option Addr) (cn ccap : Nat) (da : Option Addr) (dn dcap : Nat)
    (g0 : w.cell? ⟨b, off, none⟩ = some (.int .i64 ck)) (g1 : w.cell? ⟨b, off + 1, none⟩ = some (.int .i64 cc)) (g2 : w.cell? ⟨b, off + 2, none⟩ = some (.slice ca cn ccap)) (g3 : w.cell? ⟨b, off + 3, none⟩ = some (.slice da dn dcap))
    (HC : ∀ W, Below w.heap.size w W → Calls Try.prog 37 #[.agg #[.int .i64 ck, .int .i64 cc, .slice ca cn ccap, .slice da dn dcap], .bool (!nt)] W (Ans W.heap.size m g (.bool x) W)) :
    Calls Try.prog 37 #[.agg #[.int .i64 4, .int .i64 c, .slice a n cap, .slice (some ⟨b, off, none⟩) 1 kcap], .bool nt] w (Ans w.heap.size m g (.bool x) w) := by
  have HCH := Lib.hid HC
  clear HC
  have SZ : Hid (w.heap.size + 2 = ((w.alloc (.cells #[.int .i64 4, .int .i64 c, .slice a n cap, .slice (some ⟨b, off, none⟩) 1 kcap] 28)).alloc (.cells #[.int .i64 0, .int .i64 0, .slice none 0 0, .slice none 0 0] 28)).heap.size) := by show _ = _; simp
  have ST := Lib.hid (args_start w 4 c a (some ⟨b, off, none⟩) n cap 1 kcap)
  obtain ⟨-, p0, p1, p2, p3, -⟩ := ST.out.1
  rw [← ST.out.1.bel.cell (p := ⟨b, _, none⟩) hb] at g0 g1 g2 g3
  generalize hW : (w.alloc (.cells #[.int .i64 4, .int .i64 c, .slice a n cap, .slice (some ⟨b, off, none⟩) 1 kcap] 28)).alloc (.cells #[.int .i64 0, .int .i64 0, .slice none 0 0, .slice none 0 0] 28) = W0 at ST SZ p0 p1 p2 p3 g0 g1 g2 g3
  go_enter Try.func37, Try.ntmps37
  go_wp2_with fail
  clear hW
  refine (HCH.out _ ST.out.1.bel).mono ?_
  rintro e w3 ⟨cs3, rfl, hf3, hb3⟩
  have HF3 := Lib.hid hf3
  obtain ⟨dk, dc', ta, tn, tcap, va, vn, vcap, rfl⟩ := hf3.form
  have hz3 := hb3.size
  have hz := SZ.out
  have F3 := Lib.hid (ST.out.2.below hb3 (by omega))
  have RT := Lib.hid (ret_set F3.out (ST.out.1.bel.trans (hb3.mono (by omega))) HF3.out (fun b ⟨h1, h2⟩ => ⟨by omega, by omega, h2⟩))
  clear p0 p1 p2 p3 hf3 hb3 hz3 hz g0 g1 g2 g3
  obtain ⟨r0, r1, r2, r3, rf⟩ := F3.out
  go_wp2_with fail
  clear r0 r1 r2 r3 rf
  refine bodyPost_ret (v := .tuple #[.agg #[.int .i64 dk, .int .i64 dc', .slice ta tn tcap, .slice va vn vcap], .bool x]) ?_ rfl ⟨_, rfl, RT.out.lies, RT.out.bel⟩
  obtain ⟨_, _, e0, e1, e2, e3⟩ := RT.out
  simp [results, Try.results37, go_sem, e0, e1, e2, e3]

set_option maxRecDepth 100000 in
set_option maxHeartbeats 2000000 in
theorem rn_k2_0f (c : Int) (a ka : Option Addr) (n cap kn kcap : Nat) (g : FT) (w : World)
    (HC : ∀ W, Below w.heap.size w W → Calls Try.prog 11 #[.agg #[.int .i64 c, .slice a n cap]] W (Ans W.heap.size 2 g (.int .i64 0) W)) :
    Calls Try.prog 37 #[.agg #[.int .i64 2, .int .i64 c, .slice a n cap, .slice ka kn kcap], .bool false] w (Ans w.heap.size 2 g (.bool true) w) := by
  have HCH := Lib.hid HC
  clear HC
  have SZ : Hid (w.heap.size + 2 = ((w.alloc (.cells #[.int .i64 2, .int .i64 c, .slice a n cap, .slice ka kn kcap] 28)).alloc (.cells #[.int .i64 0, .int .i64 0, .slice none 0 0, .slice none 0 0] 28)).heap.size) := by show _ = _; simp
  have ST := Lib.hid (args_start w 2 c a ka n cap kn kcap)
  obtain ⟨-, p0, p1, p2, p3, -⟩ := ST.out.1
  generalize hW : (w.alloc (.cells #[.int .i64 2, .int .i64 c, .slice a n cap, .slice ka kn kcap] 28)).alloc (.cells #[.int .i64 0, .int .i64 0, .slice none 0 0, .slice none 0 0] 28) = W0 at ST SZ p0 p1 p2 p3
  go_enter Try.func37, Try.ntmps37
  go_wp2_with fail
  clear hW
  refine (HCH.out _ ST.out.1.bel).mono ?_
  rintro e w3 ⟨cs3, rfl, hf3, hb3⟩
  have HF3 := Lib.hid hf3
  obtain ⟨dk, dc, ta, tn, tcap, va, vn, vcap, rfl⟩ := hf3.form
  have hz3 := hb3.size
  have hz := SZ.out
  have hba : Below w3.heap.size w3 (w3.alloc (.cells #[.int .i64 dk, .int .i64 dc, .slice ta tn tcap, .slice va vn vcap] 28)) := (Below.refl _ _).alloc (Nat.le_refl _) _
  have hza := hba.size
  have B4 := Lib.hid ((ST.out.1.bel.trans (hb3.mono (by omega))).trans (hba.mono (by omega)))
  have F4 := Lib.hid ((ST.out.2.below hb3 (by omega)).below hba (by omega))
  have HF4 : Hid (FLiesS (fun b => W0.heap.size ≤ b ∧ b < w3.heap.size) (w3.alloc (.cells #[.int .i64 dk, .int .i64 dc, .slice ta tn tcap, .slice va vn vcap] 28)) 2 g [.int .i64 dk, .int .i64 dc, .slice ta tn tcap, .slice va vn vcap]) := HF3.out.keep (fun _ h => h) (fun b o ⟨h1, h2⟩ => hba.cell (p := ⟨b, o, none⟩) h2)
  have hn4 := heap_alloc_new w3 (.cells #[.int .i64 dk, .int .i64 dc, .slice ta tn tcap, .slice va vn vcap] 28)
  obtain ⟨t0, t1, t2, t3⟩ := form_cells hn4
  have RT := Lib.hid (ret_set F4.out B4.out HF4.out (fun b ⟨h1, h2⟩ => ⟨by omega, by omega, by omega⟩))
  clear p0 p1 p2 p3 hf3 hb3 hba hn4 hz3 hz hza
  obtain ⟨r0, r1, r2, r3, rf⟩ := F4.out
  go_wp2_with fail
  clear r0 r1 r2 r3 rf t0 t1 t2 t3
  refine bodyPost_ret (v := .tuple #[.agg #[.int .i64 dk, .int .i64 dc, .slice ta tn tcap, .slice va vn vcap], .bool true]) ?_ rfl ⟨_, rfl, RT.out.lies, RT.out.bel⟩
  obtain ⟨_, _, e0, e1, e2, e3⟩ := RT.out
  simp [results, Try.results37, go_sem, e0, e1, e2, e3]

set_option maxRecDepth 100000 in
set_option maxHeartbeats 2000000 in
theorem rn_k2_3f (c : Int) (a ka : Option Addr) (n cap kn kcap : Nat) (g : FT) (w : World)
    (HC : ∀ W, Below w.heap.size w W → Calls Try.prog 11 #[.agg #[.int .i64 c, .slice a n cap]] W (Ans W.heap.size 2 g (.int .i64 3) W)) :
    Calls Try.prog 37 #[.agg #[.int .i64 2, .int .i64 c, .slice a n cap, .slice ka kn kcap], .bool false] w (Ans w.heap.size 2 g (.bool false) w) := by
  have HCH := Lib.hid HC
  clear HC
  have SZ : Hid (w.heap.size + 2 = ((w.alloc (.cells #[.int .i64 2, .int .i64 c, .slice a n cap, .slice ka kn kcap] 28)).alloc (.cells #[.int .i64 0, .int .i64 0, .slice none 0 0, .slice none 0 0] 28)).heap.size) := by show _ = _; simp
  have ST := Lib.hid (args_start w 2 c a ka n cap kn kcap)
  obtain ⟨-, p0, p1, p2, p3, -⟩ := ST.out.1
  generalize hW : (w.alloc (.cells #[.int .i64 2, .int .i64 c, .slice a n cap, .slice ka kn kcap] 28)).alloc (.cells #[.int .i64 0, .int .i64 0, .slice none 0 0, .slice none 0 0] 28) = W0 at ST SZ p0 p1 p2 p3
  go_enter Try.func37, Try.ntmps37
  go_wp2_with fail
  clear hW
  refine (HCH.out _ ST.out.1.bel).mono ?_
  rintro e w3 ⟨cs3, rfl, hf3, hb3⟩
  have HF3 := Lib.hid hf3
  obtain ⟨dk, dc, ta, tn, tcap, va, vn, vcap, rfl⟩ := hf3.form
  have hz3 := hb3.size
  have hz := SZ.out
  have hba : Below w3.heap.size w3 (w3.alloc (.cells #[.int .i64 dk, .int .i64 dc, .slice ta tn tcap, .slice va vn vcap] 28)) := (Below.refl _ _).alloc (Nat.le_refl _) _
  have hza := hba.size
  have B4 := Lib.hid ((ST.out.1.bel.trans (hb3.mono (by omega))).trans (hba.mono (by omega)))
  have F4 := Lib.hid ((ST.out.2.below hb3 (by omega)).below hba (by omega))
  have HF4 : Hid (FLiesS (fun b => W0.heap.size ≤ b ∧ b < w3.heap.size) (w3.alloc (.cells #[.int .i64 dk, .int .i64 dc, .slice ta tn tcap, .slice va vn vcap] 28)) 2 g [.int .i64 dk, .int .i64 dc, .slice ta tn tcap, .slice va vn vcap]) := HF3.out.keep (fun _ h => h) (fun b o ⟨h1, h2⟩ => hba.cell (p := ⟨b, o, none⟩) h2)
  have hn4 := heap_alloc_new w3 (.cells #[.int .i64 dk, .int .i64 dc, .slice ta tn tcap, .slice va vn vcap] 28)
  obtain ⟨t0, t1, t2, t3⟩ := form_cells hn4
  have RT := Lib.hid (ret_set F4.out B4.out HF4.out (fun b ⟨h1, h2⟩ => ⟨by omega, by omega, by omega⟩))
  clear p0 p1 p2 p3 hf3 hb3 hba hn4 hz3 hz hza
  obtain ⟨r0, r1, r2, r3, rf⟩ := F4.out
  go_wp2_with fail
  clear r0 r1 r2 r3 rf t0 t1 t2 t3
  refine bodyPost_ret (v := .tuple #[.agg #[.int .i64 dk, .int .i64 dc, .slice ta tn tcap, .slice va vn vcap], .bool false]) ?_ rfl ⟨_, rfl, RT.out.lies, RT.out.bel⟩
  obtain ⟨_, _, e0, e1, e2, e3⟩ := RT.out
  simp [results, Try.results37, go_sem, e0, e1, e2, e3]

set_option maxRecDepth 100000 in
set_option maxHeartbeats 2000000 in
theorem rn_k2_3t (c : Int) (a ka : Option Addr) (n cap kn kcap : Nat) (g : FT) (w : World)
    (HC : ∀ W, Below w.heap.size w W → Calls Try.prog 11 #[.agg #[.int .i64 c, .slice a n cap]] W (Ans W.heap.size 2 g (.int .i64 3) W)) :
    Calls Try.prog 37 #[.agg #[.int .i64 2, .int .i64 c, .slice a n cap, .slice ka kn kcap], .bool true] w (Ans w.heap.size 2 g (.bool false) w) := by
  have HCH := Lib.hid HC
  clear HC
  have SZ : Hid (w.heap.size + 2 = ((w.alloc (.cells #[.int .i64 2, .int .i64 c, .slice a n cap, .slice ka kn kcap] 28)).alloc (.cells #[.int .i64 0, .int .i64 0, .slice none 0 0, .slice none 0 0] 28)).heap.size) := by show _ = _; simp
  have ST := Lib.hid (args_start w 2 c a ka n cap kn kcap)
  obtain ⟨-, p0, p1, p2, p3, -⟩ := ST.out.1
  generalize hW : (w.alloc (.cells #[.int .i64 2, .int .i64 c, .slice a n cap, .slice ka kn kcap] 28)).alloc (.cells #[.int .i64 0, .int .i64 0, .slice none 0 0, .slice none 0 0] 28) = W0 at ST SZ p0 p1 p2 p3
  go_enter Try.func37, Try.ntmps37
  go_wp2_with fail
  clear hW
  refine (HCH.out _ ST.out.1.bel).mono ?_
  rintro e w3 ⟨cs3, rfl, hf3, hb3⟩
  have HF3 := Lib.hid hf3
  obtain ⟨dk, dc, ta, tn, tcap, va, vn, vcap, rfl⟩ := hf3.form
  have hz3 := hb3.size
  have hz := SZ.out
  have hba : Below w3.heap.size w3 (w3.alloc (.cells #[.int .i64 dk, .int .i64 dc, .slice ta tn tcap, .slice va vn vcap] 28)) := (Below.refl _ _).alloc (Nat.le_refl _) _
  have hza := hba.size
  have B4 := Lib.hid ((ST.out.1.bel.trans (hb3.mono (by omega))).trans (hba.mono (by omega)))
  have F4 := Lib.hid ((ST.out.2.below hb3 (by omega)).below hba (by omega))
  have HF4 : Hid (FLiesS (fun b => W0.heap.size ≤ b ∧ b < w3.heap.size) (w3.alloc (.cells #[.int .i64 dk, .int .i64 dc, .slice ta tn tcap, .slice va vn vcap] 28)) 2 g [.int .i64 dk, .int .i64 dc, .slice ta tn tcap, .slice va vn vcap]) := HF3.out.keep (fun _ h => h) (fun b o ⟨h1, h2⟩ => hba.cell (p := ⟨b, o, none⟩) h2)
  have hn4 := heap_alloc_new w3 (.cells #[.int .i64 dk, .int .i64 dc, .slice ta tn tcap, .slice va vn vcap] 28)
  obtain ⟨t0, t1, t2, t3⟩ := form_cells hn4
  have RT := Lib.hid (ret_set F4.out B4.out HF4.out (fun b ⟨h1, h2⟩ => ⟨by omega, by omega, by omega⟩))
  clear p0 p1 p2 p3 hf3 hb3 hba hn4 hz3 hz hza
  obtain ⟨r0, r1, r2, r3, rf⟩ := F4.out
  go_wp2_with fail
  clear r0 r1 r2 r3 rf t0 t1 t2 t3
  refine bodyPost_ret (v := .tuple #[.agg #[.int .i64 dk, .int .i64 dc, .slice ta tn tcap, .slice va vn vcap], .bool false]) ?_ rfl ⟨_, rfl, RT.out.lies, RT.out.bel⟩
  obtain ⟨_, _, e0, e1, e2, e3⟩ := RT.out
  simp [results, Try.results37, go_sem, e0, e1, e2, e3]

set_option maxRecDepth 100000 in
set_option maxHeartbeats 2000000 in
theorem rn_k2_0t (c : Int) (a ka : Option Addr) (n cap kn kcap : Nat) (g : FT) (hg : IsLit g) (w : World)
    (HC : ∀ W, Below w.heap.size w W → Calls Try.prog 11 #[.agg #[.int .i64 c, .slice a n cap]] W (Ans W.heap.size 2 g (.int .i64 0) W)) :
    Calls Try.prog 37 #[.agg #[.int .i64 2, .int .i64 c, .slice a n cap, .slice ka kn kcap], .bool true] w (Ans w.heap.size 2 (oppF g) (.bool true) w) := by
  have HCH := Lib.hid HC
  clear HC
  have SZ : Hid (w.heap.size + 2 = ((w.alloc (.cells #[.int .i64 2, .int .i64 c, .slice a n cap, .slice ka kn kcap] 28)).alloc (.cells #[.int .i64 0, .int .i64 0, .slice none 0 0, .slice none 0 0] 28)).heap.size) := by show _ = _; simp
  have ST := Lib.hid (args_start w 2 c a ka n cap kn kcap)
  obtain ⟨-, p0, p1, p2, p3, -⟩ := ST.out.1
  generalize hW : (w.alloc (.cells #[.int .i64 2, .int .i64 c, .slice a n cap, .slice ka kn kcap] 28)).alloc (.cells #[.int .i64 0, .int .i64 0, .slice none 0 0, .slice none 0 0] 28) = W0 at ST SZ p0 p1 p2 p3
  go_enter Try.func37, Try.ntmps37
  go_wp2_with fail
  clear hW
  refine (HCH.out _ ST.out.1.bel).mono ?_
  rintro e w3 ⟨cs3, rfl, hf3, hb3⟩
  have HF3 := Lib.hid hf3
  obtain ⟨dk, dc, ta, tn, tcap, va, vn, vcap, rfl⟩ := hf3.form
  have hz3 := hb3.size
  have hz := SZ.out
  have hba : Below w3.heap.size w3 (w3.alloc (.cells #[.int .i64 dk, .int .i64 dc, .slice ta tn tcap, .slice va vn vcap] 28)) := (Below.refl _ _).alloc (Nat.le_refl _) _
  have hza := hba.size
  have B4 := Lib.hid ((ST.out.1.bel.trans (hb3.mono (by omega))).trans (hba.mono (by omega)))
  have F4 := Lib.hid ((ST.out.2.below hb3 (by omega)).below hba (by omega))
  have HF4 : Hid (FLiesS (fun b => W0.heap.size ≤ b ∧ b < w3.heap.size) (w3.alloc (.cells #[.int .i64 dk, .int .i64 dc, .slice ta tn tcap, .slice va vn vcap] 28)) 2 g [.int .i64 dk, .int .i64 dc, .slice ta tn tcap, .slice va vn vcap]) := HF3.out.keep (fun _ h => h) (fun b o ⟨h1, h2⟩ => hba.cell (p := ⟨b, o, none⟩) h2)
  have hn4 := heap_alloc_new w3 (.cells #[.int .i64 dk, .int .i64 dc, .slice ta tn tcap, .slice va vn vcap] 28)
  obtain ⟨t0, t1, t2, t3⟩ := form_cells hn4
  have HN4 := Lib.hid hn4
  have HOP := Lib.hid ((opp_any g hg _ _ _ (fun b ⟨h1, h2⟩ => Nat.lt_of_lt_of_le h2 hza) HF4.out).2)
  have hl4 : w3.heap.size < (w3.alloc (.cells #[.int .i64 dk, .int .i64 dc, .slice ta tn tcap, .slice va vn vcap] 28)).heap.size := lt_of_some hn4
  clear p0 p1 p2 p3 hf3 hb3 hba hn4
  generalize hW4 : w3.alloc (.cells #[.int .i64 dk, .int .i64 dc, .slice ta tn tcap, .slice va vn vcap] 28) = W4 at B4 F4 HF4 HN4 HOP t0 t1 t2 t3 hza hl4
  generalize hM : w3.heap.size = M at hz3 HF4 HN4 HOP t0 t1 t2 t3 hza hl4
  go_wp2_with fail
  clear hW4 hM t0 t1 t2 t3
  refine HOP.out.mono ?_
  rintro e w5 ⟨cs5, rfl, hf5, hb5⟩
  have HF5 := Lib.hid hf5
  obtain ⟨ek, ec, ua, un, ucap, xa, xn, xcap, rfl⟩ := hf5.form
  have hz5 := hb5.size
  have hMN : w.heap.size + 1 ≠ M := by omega
  have hbM := (hb5.block M hl4).trans HN4.out
  obtain ⟨t0, t1, t2, t3⟩ := form_cells hbM
  have tf : ∀ o, w5.frozen? ⟨M, o, none⟩ = false := fun o => frozen_of_row _ _ _ _ _ hbM
  obtain ⟨s0, s1, s2, s3⟩ := set4_at t0 t1 t2 t3 (.int .i64 ek) (.int .i64 ec) (.slice ua un ucap) (.slice xa xn xcap)
  unfold set4 at s0 s1 s2 s3
  have B5 := Lib.hid (below4 (B4.out.trans (hb5.mono (by omega))) (show w.heap.size ≤ M by omega) (.int .i64 ek) (.int .i64 ec) (.slice ua un ucap) (.slice xa xn xcap))
  have F5 := Lib.hid (fb_four (F4.out.below hb5 (by omega)) hMN (.int .i64 ek) (.int .i64 ec) (.slice ua un ucap) (.slice xa xn xcap))
  have RT := Lib.hid (ret_set F5.out B5.out (HF5.out.set (No := M) (S' := fun b => w.heap.size + 2 ≤ b ∧ b < w5.heap.size) (fun b hb => by rcases hb with ⟨h1, h2⟩ | ⟨h1, h2⟩ <;> omega) (fun b hb => by rcases hb with ⟨h1, h2⟩ | ⟨h1, h2⟩ <;> exact ⟨by omega, by omega⟩) (.int .i64 ek) (.int .i64 ec) (.slice ua un ucap) (.slice xa xn xcap)) (fun b ⟨h1, h2⟩ => ⟨by omega, by omega, by rw [four_size]; exact h2⟩))
  clear hbM hb5 hf5
  obtain ⟨r0, r1, r2, r3, rf⟩ := F5.out
  go_wp2_with fail
  clear r0 r1 r2 r3 rf t0 t1 t2 t3 tf s0 s1 s2 s3
  refine bodyPost_ret (v := .tuple #[.agg #[.int .i64 ek, .int .i64 ec, .slice ua un ucap, .slice xa xn xcap], .bool true]) ?_ rfl ⟨_, rfl, RT.out.lies, RT.out.bel⟩
  obtain ⟨_, _, e0, e1, e2, e3⟩ := RT.out
  simp [results, Try.results37, go_sem, e0, e1, e2, e3]

end Go.Proofs.Ytknagcednppokaa
