/- CutLong: what is made. CutLong, the first kind. -/
import Derived.Test.YtmjhjacbhflcpaaDoorCl12
import Derived.Test.YtmjhjacbhflcpaaDoorCl13
set_option linter.unusedVariables false
set_option linter.unusedSimpArgs false
namespace Go.Proofs.YtmjhjacbhflcpaaDoor
open Go.RowKit Go.Maps

theorem made_at2 (x y : Value) (n i : Nat) (h : i < n) : (madeCells #[x, y] (n * 2))[i * 2]? = some x ∧ (madeCells #[x, y] (n * 2))[i * 2 + 1]? = some y := by
  have h1 : i * 2 < n * 2 := by omega
  have h2 : i * 2 + 1 < n * 2 := by omega
  refine ⟨?_, ?_⟩
  · simp [madeCells, h1]
  · have : (i * 2 + 1) % 2 = 1 := by omega
    simp [madeCells, h2, this]
theorem run_make_lins2 (W : World) (z : Int) (n : Nat) (hz : z = n) (hn : n ≤ 8192) : (Instr.makeSlice 22 (.int .i64 z) (.int .i64 z)).run Tryd.prog W = .ok (.slice (some ⟨W.heap.size, 0, none⟩) n n) (W.alloc (.cells (madeCells #[.int .i64 0, .slice none 0 0] (n * 2)) 49)) := by
  subst hz
  obtain ⟨i0, hi, hz0, hz1, hz2⟩ := info_parts Tryd.infoLin
  have := run_make (P := Tryd.prog) W 22 49 i0 _ Tryd.underlying22 hi hz0 .i64 .i64 n n (by omega) (Int.le_refl _) (by rw [hz2]; omega) (by omega)
  rw [hz1] at this
  simp only [Int.toNat_natCast] at this
  exact this
theorem Tryd.infoPart : (Tryd.prog.info? 41).map (fun i => (i.zero, i.size, i.bytes)) = some (some (.agg #[.int .i64 0, .int .i64 0]), 2, 16) := by kernel_rfl
theorem Tryd.infoStep : (Tryd.prog.info? 39).map (fun i => (i.zero, i.size, i.bytes)) = some (some (.agg #[.slice none 0 0, .int .i64 0]), 2, 32) := by kernel_rfl
theorem run_make_parts (W : World) (z : Int) (n : Nat) (hz : z = n) (hn : n ≤ 8192) : (Instr.makeSlice 37 (.int .i64 z) (.int .i64 z)).run Tryd.prog W = .ok (.slice (some ⟨W.heap.size, 0, none⟩) n n) (W.alloc (.cells (madeCells #[.int .i64 0, .int .i64 0] (n * 2)) 41)) := by
  subst hz
  obtain ⟨i0, hi, hz0, hz1, hz2⟩ := info_parts Tryd.infoPart
  have := run_make (P := Tryd.prog) W 37 41 i0 _ Tryd.underlying37 hi hz0 .i64 .i64 n n (by omega) (Int.le_refl _) (by rw [hz2]; omega) (by omega)
  rw [hz1] at this
  simp only [Int.toNat_natCast] at this
  exact this
def zls (n : Nat) : List (Int × List (Int × Int)) := List.replicate n (0, [])
theorem zls_len (n : Nat) : (zls n).length = n := List.length_replicate
theorem zls_get (n i : Nat) (h : i < n) : (zls n).getD i (0, []) = (0, []) := by simp [zls, List.getD_eq_getElem?_getD, h]
theorem zls_lies (W : World) (n : Nat) (t : TypeId) (W' : World) (hb : Below (W.heap.size + 1) (W.alloc (.cells (madeCells #[.int .i64 0, .slice none 0 0] (n * 2)) t)) W') : LLies W'.heap.size W' (some ⟨W.heap.size, 0, none⟩) (zls n) := fun i hi => by
  rw [zls_len] at hi
  rw [zls_get n i hi]
  have hn := heap_alloc_new W (.cells (madeCells #[.int .i64 0, .slice none 0 0] (n * 2)) t)
  obtain ⟨g1, g2⟩ := made_at2 (.int .i64 0) (.slice none 0 0) n i hi
  have hz := hb.size
  have hs : (W.alloc (.cells (madeCells #[.int .i64 0, .slice none 0 0] (n * 2)) t)).heap.size = W.heap.size + 1 := by simp
  refine ⟨W.heap.size, 0, none, 0, rfl, by omega, ?_, ?_, fun j hj => absurd hj (Nat.not_lt_zero _)⟩
  · rw [hb.cell (p := ⟨W.heap.size, _, none⟩) (Nat.lt_succ_self _), cell_of_row _ _ _ _ _ _ hn, Nat.zero_add]; exact g1
  · rw [hb.cell (p := ⟨W.heap.size, _, none⟩) (Nat.lt_succ_self _), cell_of_row _ _ _ _ _ _ hn, Nat.zero_add]; exact g2
theorem zls_ok (n : Nat) : lsOk (zls n) := fun i hi => by
  rw [zls_len] at hi
  rw [zls_get n i hi]; decide
theorem lines_k0 (n : Nat) : (4096 < n → LinesIs (zls n) [] 2 (-1) []) ∧ (n ≤ 4096 → LinesIs (zls n) [] 0 (-1) (zls n)) :=
  ⟨fun h => .long (.inl (by rw [zls_len]; exact h)), fun h => .ok (by rw [zls_len]; exact h) (by decide) (zls_ok n) (fun j hj => absurd hj (Nat.not_lt_zero _))⟩
theorem k0_given (W : World) (n : Nat) (hn : n ≤ 8192) (t : TypeId) : Given (W.alloc (.cells (madeCells #[.int .i64 0, .slice none 0 0] (n * 2)) t)).heap.size (W.alloc (.cells (madeCells #[.int .i64 0, .slice none 0 0] (n * 2)) t)) (some ⟨W.heap.size, 0, none⟩) n (zls n) none 0 [] :=
  ⟨zls_len n, zls_lies W n t _ (Below.refl _ _), fun i hi => by rw [zls_get n i hi]; decide, rfl, fun i hi => absurd hi (Nat.not_lt_zero _), by omega, by omega⟩

/-- Steps without parts, in an own row. -/
def sflat (k : Nat) : List Value := (List.replicate k [Value.slice none 0 0, Value.int .i64 1]).flatten
theorem sflat_succ (k : Nat) : sflat (k + 1) = sflat k ++ [.slice none 0 0, .int .i64 1] := by
  unfold sflat
  rw [List.replicate_succ', List.flatten_append]
  simp
theorem sflat_len : ∀ k, (sflat k).length = k * 2
  | 0 => rfl
  | k + 1 => by rw [sflat_succ, List.length_append, sflat_len k]; simp; omega
theorem sflat_get : ∀ (k i : Nat), i < k → (sflat k)[i * 2]? = some (.slice none 0 0) ∧ (sflat k)[i * 2 + 1]? = some (.int .i64 1)
  | k + 1, i, h => by
    rw [sflat_succ]
    by_cases e : i = k
    · subst e
      have := sflat_len i
      refine ⟨?_, ?_⟩
      · rw [List.getElem?_append_right (by omega), this, Nat.sub_self]; rfl
      · rw [List.getElem?_append_right (by omega), this, show i * 2 + 1 - i * 2 = 1 by omega]; rfl
    · obtain ⟨h1, h2⟩ := sflat_get k i (by omega)
      have := sflat_len k
      exact ⟨by rw [List.getElem?_append_left (by omega)]; exact h1, by rw [List.getElem?_append_left (by omega)]; exact h2⟩
def zss (n : Nat) : List (List (Int × Int) × Int) := List.replicate n ([], 1)
theorem zss_len (n : Nat) : (zss n).length = n := List.length_replicate
theorem zss_get (n i : Nat) (h : i < n) : (zss n).getD i ([], 0) = ([], 1) := by simp [zss, List.getD_eq_getElem?_getD, h]
def StR (B k : Nat) (v : Value) (w : World) : Prop := w.ownsRow B 39 2 v k (sflat k)
theorem StR.slies {B k : Nat} {v : Value} {w : World} (h : StR B k v w) : ∃ a cap, v = .slice a k cap ∧ SLies w.heap.size w a (zss k) := by
  have hc := fun g => World.ownsRow.cells h (g := g)
  have hlt := World.ownsRow.lt h
  obtain ⟨_, h1 | ⟨g, cap, cur, hv, h2⟩⟩ := h
  · exact ⟨none, 0, by rw [h1.1, h1.2], fun i hi => by rw [zss_len] at hi; omega⟩
  · subst hv
    refine ⟨some ⟨g, 0, none⟩, cap, rfl, fun i hi => ?_⟩
    rw [zss_len] at hi
    rw [zss_get k i hi]
    obtain ⟨g1, g2⟩ := sflat_get k i hi
    refine ⟨g, 0, none, 0, rfl, (hlt g rfl).2, by decide, ?_, ?_, fun j hj => absurd hj (Nat.not_lt_zero _)⟩
    · have := hc g rfl (i * 2) _ g1
      rwa [show (⟨g, 0, none⟩ : Addr).add (i * 2) = ⟨g, 0 + i * 2, none⟩ by unfold Addr.add; split <;> simp_all] at this
    · have := hc g rfl (i * 2 + 1) _ g2
      rwa [show (⟨g, 0, none⟩ : Addr).add (i * 2 + 1) = ⟨g, 0 + i * 2 + 1, none⟩ by unfold Addr.add; simp] at this
theorem sumOf_nil : sumOf [] = [] := sumOf_eq ⟨List.Pairwise.nil, fun m hm => absurd hm List.not_mem_nil, fun _ => rfl⟩
theorem tell_none (ls : List (Int × List (Int × Int))) : tellS ls ([], 1) = 0 := by
  show tellK ls.length 0 1 [] (sumOf []) = 0
  rw [sumOf_nil]
  have h : stepK ls.length [] 1 = 0 := by unfold stepK; rw [if_neg (by decide)]; rfl
  rw [tellK_ok h (by decide) (by decide) (by decide)]
  decide
theorem lines_k1 (n : Nat) : (4096 < n → LinesIs [] (zss n) 2 (-1) []) ∧ (n ≤ 4096 → LinesIs [] (zss n) 0 (-1) (lnL [] (zss n) n)) := by
  refine ⟨fun h => .long (.inr (by rw [zss_len]; exact h)), fun h => ?_⟩
  have := LinesIs.ok (ls := []) (ss := zss n) (by decide) (by rw [zss_len]; exact h) (fun i hi => absurd hi (Nat.not_lt_zero _)) (fun j hj => by rw [zss_len] at hj; rw [zss_get n j hj]; exact tell_none _)
  rwa [zss_len] at this
theorem k1_given {B n : Nat} {v : Value} {w : World} (h : StR B n v w) (hn : n ≤ 8192) : ∃ a cap, v = .slice a n cap ∧ Given w.heap.size w none 0 [] a n (zss n) := by
  obtain ⟨a, cap, e, hs⟩ := h.slies
  exact ⟨a, cap, e, rfl, fun i hi => absurd hi (Nat.not_lt_zero _), fun i hi => absurd hi (Nat.not_lt_zero _), zss_len n, hs, by omega, by omega⟩
theorem step_new (w : World) (t : TypeId) (N : Nat) (hN : w.heap.size = N) : ∀ j u, [Value.slice none 0 0, .int .i64 1][j]? = some u → (w.alloc (.cells #[.slice none 0 0, .int .i64 1] t)).cell? ((⟨N, 0, none⟩ : Addr).add j) = some u := by
  subst hN
  exact cell_two_new' w _ _ t
theorem step_one : ∀ u ∈ [Value.slice none 0 0, Value.int .i64 1], u.oneCell' = true := by
  intro u hu
  rcases List.mem_cons.1 hu with rfl | hu
  · rfl
  · rw [List.mem_singleton] at hu; subst hu; rfl
end Go.Proofs.YtmjhjacbhflcpaaDoor

namespace Go.Proofs.YtmjhjacbhflcpaaDoor
open Go.RowKit Go.Maps

set_option maxRecDepth 100000 in
set_option maxHeartbeats 1000000 in
theorem long0_n (hup : UpSaid4) (n which : Int) (m : Nat) (w : World) (h1 : n ≤ 5000) (hm : n = m) (hk : which.tmod 3 = 0) :
    Calls Tryd.prog 5 #[.int .i64 n, .int .i64 which] w fun e w' => e = .returned (.bool true) ∧ Below w.heap.size w w' := by
  have HUP := Lib.hid (fun W => hup W)
  subst hm
  have hm5 : m ≤ 5000 := by omega
  have hm0 : ¬ (m : Int) < 0 := by omega
  have hmk := fun W => run_make_lins2 W (m : Int) m rfl (by omega)
  have HG := Lib.hid (fun W => k0_given W m (by omega) 49)
  have hl1 := (lines_k0 m).1
  have hl2 := (lines_k0 m).2
  have e1 := fun W => Tryd.eqCode 2 2 W
  have HBA := Lib.hid (fun (W : World) (o : Obj) => (Below.refl W.heap.size W).alloc (Nat.le_refl _) o)
  clear hup
  go_enter Tryd.func5, Tryd.ntmps5
  go_wp2_with fail
  refine (HUP.out _).mono ?_
  rintro e w1 ⟨rfl, hb1⟩
  have B1 := Lib.hid hb1
  clear hb1
  go_wp2_with fail
  have B2 := Lib.hid (B1.out.trans ((HBA.out w1 (.cells (madeCells #[.int .i64 0, .slice none 0 0] (m * 2)) 49)).mono B1.out.size))
  have GV := Lib.hid (HG.out w1)
  generalize w1.alloc (.cells (madeCells #[.int .i64 0, .slice none 0 0] (m * 2)) 49) = w2 at B2 GV ⊢
  by_cases h40 : 4096 < m
  · have HL := Lib.hid (lines_any _ m m (zls m) none 0 0 [] w2 GV.out 2 (-1) [] (hl1 h40))
    have h40z : 4096 < (m : Int) := by omega
    clear hmk hl1 hl2 HG
    refine HL.out.mono ?_
    rintro e w3 ⟨v, er, xs, rfl, hrow, hfs, her, hb3⟩
    rw [her.1 (by omega), codeV_ne (by decide)]
    obtain ⟨la, lcap, rfl, _⟩ := hrow.llies
    have hx0 : xs.length = 0 := by rw [← lforms_len, hfs]; rfl
    rw [hx0]
    have B3 := Lib.hid (B2.out.trans (hb3.mono B2.out.size))
    clear hrow hfs her hb3 HL hx0
    go_wp2_with fail
    go_ret
    exact ⟨rfl, B3.out⟩
  · have HL := Lib.hid (lines_any _ m m (zls m) none 0 0 [] w2 GV.out 0 (-1) (zls m) (hl2 (by omega)))
    have h40z : ¬ 4096 < (m : Int) := by omega
    clear hmk hl1 hl2 HG
    refine HL.out.mono ?_
    rintro e w3 ⟨v, er, xs, rfl, hrow, hfs, her, hb3⟩
    rw [her.1 (by omega), codeV_zero]
    obtain ⟨la, lcap, rfl, _⟩ := hrow.llies
    have hx0 : xs.length = m := by rw [← lforms_len, hfs, zls_len]
    rw [hx0]
    have B3 := Lib.hid (B2.out.trans (hb3.mono B2.out.size))
    have hmm : ((m : Int) == (m : Int)) = true := by simp
    have hwm : IntKind.i64.wrap (m : Int) = m := IntWalk.i64_in _ (by omega)
    clear hrow hfs her hb3 HL hx0
    go_wp2_with fail
    go_ret
    exact ⟨rfl, B3.out⟩

set_option maxRecDepth 100000 in
set_option maxHeartbeats 1000000 in
theorem long0_lo (hup : UpSaid4) (n which : Int) (w : World) (h0 : n < 0) (hk : which.tmod 3 = 0) :
    Calls Tryd.prog 5 #[.int .i64 n, .int .i64 which] w fun e w' => e = .returned (.bool true) ∧ Below w.heap.size w w' := by
  have HUP := Lib.hid (fun W => hup W)
  skip
  have hmk := fun W => run_make_lins2 W 3 3 rfl (by omega)
  have HG := Lib.hid (fun W => k0_given W 3 (by omega) 49)
  have hl1 := (lines_k0 3).1
  have hl2 := (lines_k0 3).2
  have e1 := fun W => Tryd.eqCode 2 2 W
  have HBA := Lib.hid (fun (W : World) (o : Obj) => (Below.refl W.heap.size W).alloc (Nat.le_refl _) o)
  clear hup
  go_enter Tryd.func5, Tryd.ntmps5
  go_wp2_with fail
  refine (HUP.out _).mono ?_
  rintro e w1 ⟨rfl, hb1⟩
  have B1 := Lib.hid hb1
  clear hb1
  go_wp2_with fail
  have B2 := Lib.hid (B1.out.trans ((HBA.out w1 (.cells (madeCells #[.int .i64 0, .slice none 0 0] (3 * 2)) 49)).mono B1.out.size))
  have GV := Lib.hid (HG.out w1)
  generalize w1.alloc (.cells (madeCells #[.int .i64 0, .slice none 0 0] (3 * 2)) 49) = w2 at B2 GV ⊢
  have HL := Lib.hid (lines_any _ 3 3 (zls 3) none 0 0 [] w2 GV.out 0 (-1) (zls 3) (hl2 (by omega)))
  clear hmk hl1 hl2 HG
  refine HL.out.mono ?_
  rintro e w3 ⟨v, er, xs, rfl, hrow, hfs, her, hb3⟩
  rw [her.1 (by omega), codeV_zero]
  obtain ⟨la, lcap, rfl, _⟩ := hrow.llies
  have hx0 : xs.length = 3 := by rw [← lforms_len, hfs, zls_len]
  rw [hx0]
  have B3 := Lib.hid (B2.out.trans (hb3.mono B2.out.size))
  clear hrow hfs her hb3 HL hx0
  go_wp2_with fail
  go_ret
  exact ⟨rfl, B3.out⟩

set_option maxRecDepth 100000 in
set_option maxHeartbeats 1000000 in
theorem long0_hi (hup : UpSaid4) (n which : Int) (w : World) (h0 : 5000 < n) (hk : which.tmod 3 = 0) :
    Calls Tryd.prog 5 #[.int .i64 n, .int .i64 which] w fun e w' => e = .returned (.bool true) ∧ Below w.heap.size w w' := by
  have HUP := Lib.hid (fun W => hup W)
  have h9 : ¬ n < 0 := by omega
  have hmk := fun W => run_make_lins2 W 3 3 rfl (by omega)
  have HG := Lib.hid (fun W => k0_given W 3 (by omega) 49)
  have hl1 := (lines_k0 3).1
  have hl2 := (lines_k0 3).2
  have e1 := fun W => Tryd.eqCode 2 2 W
  have HBA := Lib.hid (fun (W : World) (o : Obj) => (Below.refl W.heap.size W).alloc (Nat.le_refl _) o)
  clear hup
  go_enter Tryd.func5, Tryd.ntmps5
  go_wp2_with fail
  refine (HUP.out _).mono ?_
  rintro e w1 ⟨rfl, hb1⟩
  have B1 := Lib.hid hb1
  clear hb1
  go_wp2_with fail
  have B2 := Lib.hid (B1.out.trans ((HBA.out w1 (.cells (madeCells #[.int .i64 0, .slice none 0 0] (3 * 2)) 49)).mono B1.out.size))
  have GV := Lib.hid (HG.out w1)
  generalize w1.alloc (.cells (madeCells #[.int .i64 0, .slice none 0 0] (3 * 2)) 49) = w2 at B2 GV ⊢
  have HL := Lib.hid (lines_any _ 3 3 (zls 3) none 0 0 [] w2 GV.out 0 (-1) (zls 3) (hl2 (by omega)))
  clear hmk hl1 hl2 HG
  refine HL.out.mono ?_
  rintro e w3 ⟨v, er, xs, rfl, hrow, hfs, her, hb3⟩
  rw [her.1 (by omega), codeV_zero]
  obtain ⟨la, lcap, rfl, _⟩ := hrow.llies
  have hx0 : xs.length = 3 := by rw [← lforms_len, hfs, zls_len]
  rw [hx0]
  have B3 := Lib.hid (B2.out.trans (hb3.mono B2.out.size))
  clear hrow hfs her hb3 HL hx0
  go_wp2_with fail
  go_ret
  exact ⟨rfl, B3.out⟩
end Go.Proofs.YtmjhjacbhflcpaaDoor
