/- Cells in rows; slices.Grow, slices.Concat. -/
import Derived.Test.YteiomafciignkaaHepA
import Derived.Deep.AppendLies
import Derived.Lib.AppendZerosOnto
set_option linter.unusedVariables false
set_option linter.unusedSimpArgs false
namespace Go.Proofs.Yteiomafciignkaa
set_option maxRecDepth 100000
open Go.RowKit

structure HC where
  a : Int
  f : ByteArray
  v : Int
def hc0 : HC := ⟨0, ByteArray.empty, 0⟩
def hkey (c : HC) : Key := (c.a, c.f.toList)
theorem HC.ext' {x y : HC} (h : hkey x = hkey y) (hv : x.v = y.v) : x = y := by
  obtain ⟨a, f, v⟩ := x
  obtain ⟨b, g, u⟩ := y
  simp only [hkey, Prod.mk.injEq] at h hv
  obtain ⟨rfl, h⟩ := h
  obtain rfl := bs_inj h
  rw [hv]
def hcells (xs : List HC) : List Value := xs.flatMap fun x => [.int .i64 x.a, .string x.f, .int .i64 x.v]
theorem hcells_append (xs ys : List HC) : hcells (xs ++ ys) = hcells xs ++ hcells ys := by simp [hcells]
theorem hcells_len : ∀ xs : List HC, (hcells xs).length = xs.length * 3
  | [] => rfl
  | x :: xs => by
    have := hcells_len xs
    simp only [hcells, List.flatMap_cons, List.length_append, List.length_cons, List.length_nil] at this ⊢
    omega
theorem hcells_one : ∀ xs : List HC, ∀ u ∈ hcells xs, u.oneCell' = true := fun xs u hu => by
  obtain ⟨x, _, h⟩ := List.mem_flatMap.1 hu
  simp only [List.mem_cons, List.not_mem_nil, or_false] at h
  rcases h with rfl | rfl | rfl <;> rfl
theorem hcells_get : ∀ (xs : List HC) (i : Nat), i < xs.length → (hcells xs)[i * 3]? = some (.int .i64 (xs.getD i hc0).a) ∧ (hcells xs)[i * 3 + 1]? = some (.string (xs.getD i hc0).f) ∧ (hcells xs)[i * 3 + 2]? = some (.int .i64 (xs.getD i hc0).v)
  | [], i, h => absurd h (Nat.not_lt_zero i)
  | x :: xs, 0, _ => ⟨rfl, rfl, rfl⟩
  | x :: xs, i + 1, h => by
    have := hcells_get xs i (by simpa using h)
    rw [show (i + 1) * 3 = i * 3 + 3 by omega, show i * 3 + 3 + 1 = i * 3 + 1 + 3 by omega, show i * 3 + 3 + 2 = i * 3 + 2 + 3 by omega]
    exact this
/-- Cells in a row. -/
def HLies (B : Nat) (w : World) (a : Option Addr) (xs : List HC) : Prop :=
  ∀ i, i < xs.length → ∃ b off, a = some ⟨b, off, none⟩ ∧ b < B ∧ w.cell? ⟨b, off + i * 3, none⟩ = some (.int .i64 (xs.getD i hc0).a) ∧ w.cell? ⟨b, off + i * 3 + 1, none⟩ = some (.string (xs.getD i hc0).f) ∧ w.cell? ⟨b, off + i * 3 + 2, none⟩ = some (.int .i64 (xs.getD i hc0).v)
theorem HLies.mono {B B' : Nat} {w : World} {a : Option Addr} {xs : List HC} (h : HLies B w a xs) (hb : B ≤ B') : HLies B' w a xs := fun i hi => by
  obtain ⟨b, off, ha, hlt, h1⟩ := h i hi
  exact ⟨b, off, ha, Nat.lt_of_lt_of_le hlt hb, h1⟩
theorem HLies.below {B : Nat} {w w' : World} {a : Option Addr} {xs : List HC} (h : HLies B w a xs) (hb : Below B w w') : HLies B w' a xs := fun i hi => by
  obtain ⟨b, off, ha, hlt, h1, h2, h3⟩ := h i hi
  exact ⟨b, off, ha, hlt, (hb.cell (p := ⟨b, _, none⟩) hlt).trans h1, (hb.cell (p := ⟨b, _, none⟩) hlt).trans h2, (hb.cell (p := ⟨b, _, none⟩) hlt).trans h3⟩
theorem HLies.up {w w' : World} {a : Option Addr} {xs : List HC} (h : HLies w.heap.size w a xs) (hb : Below w.heap.size w w') : HLies w'.heap.size w' a xs := (h.below hb).mono hb.size
theorem HLies.take {B : Nat} {w : World} {a : Option Addr} {xs : List HC} (h : HLies B w a xs) (k : Nat) : HLies B w a (xs.take k) := fun i hi => by
  rw [List.length_take] at hi
  have e : (xs.take k).getD i hc0 = xs.getD i hc0 := by rw [List.getD_eq_getElem?_getD, List.getElem?_take, if_pos (by omega), List.getD_eq_getElem?_getD]
  rw [e]
  exact h i (by omega)
theorem HLies.drop {B : Nat} {w : World} {b off : Nat} {xs : List HC} (h : HLies B w (some ⟨b, off, none⟩) xs) (k : Nat) : HLies B w (some ⟨b, off + k * 3, none⟩) (xs.drop k) := fun i hi => by
  rw [List.length_drop] at hi
  have e : (xs.drop k).getD i hc0 = xs.getD (k + i) hc0 := by rw [List.getD_eq_getElem?_getD, List.getElem?_drop, List.getD_eq_getElem?_getD]
  rw [e]
  obtain ⟨b', off', ha, hlt, h1, h2, h3⟩ := h (k + i) (by omega)
  obtain ⟨rfl, rfl⟩ : b = b' ∧ off = off' := by injection ha with e; injection e with e1 e2 e3; exact ⟨e1, e2⟩
  rw [show off + (k + i) * 3 = off + k * 3 + i * 3 by omega] at h1 h2 h3
  exact ⟨b, off + k * 3, rfl, hlt, h1, h2, h3⟩
theorem HLies.cells {B : Nat} {w : World} {a : Option Addr} {xs : List HC} (h : HLies B w a xs) (hpos : 0 < xs.length) : ∃ b off, a = some ⟨b, off, none⟩ ∧ b < B ∧ ∀ j u, (hcells xs)[j]? = some u → w.cell? ⟨b, off + j, none⟩ = some u := by
  obtain ⟨b, off, ha, hlt, _⟩ := h 0 hpos
  refine ⟨b, off, ha, hlt, fun j u hu => ?_⟩
  have hj : j < xs.length * 3 := by have := (List.getElem?_eq_some_iff.1 hu).1; rwa [hcells_len] at this
  obtain ⟨b', off', ha', _, h1, h2, h3⟩ := h (j / 3) (by omega)
  rw [ha] at ha'
  obtain ⟨rfl, rfl⟩ : b = b' ∧ off = off' := by injection ha' with e; injection e with e1 e2 e3; exact ⟨e1, e2⟩
  obtain ⟨g1, g2, g3⟩ := hcells_get xs (j / 3) (by omega)
  rcases (show j = j / 3 * 3 ∨ j = j / 3 * 3 + 1 ∨ j = j / 3 * 3 + 2 by omega) with e | e | e
  · rw [e] at hu
    rw [g1] at hu
    rw [show off + j = off + j / 3 * 3 by omega, h1, hu]
  · rw [e] at hu
    rw [g2] at hu
    rw [show off + j = off + j / 3 * 3 + 1 by omega, h2, hu]
  · rw [e] at hu
    rw [g3] at hu
    rw [show off + j = off + j / 3 * 3 + 2 by omega, h3, hu]
theorem lt_of_some {W : World} {b : Nat} {o : Obj} (h : W.heap[b]? = some o) : b < W.heap.size := (Array.getElem?_eq_some_iff.1 h).1
/-- A new row of cells. -/
theorem hlies_new (w : World) (xs : List HC) (t : TypeId) : HLies (w.heap.size + 1) (w.alloc (.cells (hcells xs).toArray t)) (some ⟨w.heap.size, 0, none⟩) xs := fun i hi => by
  have hn := heap_alloc_new w (.cells (hcells xs).toArray t)
  obtain ⟨g1, g2, g3⟩ := hcells_get xs i hi
  refine ⟨w.heap.size, 0, rfl, by omega, ?_, ?_, ?_⟩
  · rw [cell_of_row _ _ _ _ _ _ hn]; simpa using g1
  · rw [cell_of_row _ _ _ _ _ _ hn]; simpa using g2
  · rw [cell_of_row _ _ _ _ _ _ hn]; simpa using g3
/-- append(own, cells...): whatever cells. -/
theorem run_append_h {P : Program} {w : World} (B : Nat) (t ty e : TypeId) (i : TypeInfo) (z : Value) (ht : P.underlying t = some (.slice e)) (hi : P.info? e = some i) (hz : i.zero = some z) (hs : i.size = 3) (hby : i.bytes = 32) (hzs : z.cells.size = 3)
    (v : Value) (n : Nat) (xs : List HC) (hn : xs.length = n) (hown : w.ownsRow B e 3 v n (hcells xs)) (hB : B ≤ w.heap.size) (a : Option Addr) (m cap : Nat) (ys : List HC) (hm : ys.length = m)
    (hl : HLies w.heap.size w a ys) (hsz : (n + m) * 32 ≤ 140737488355328) :
    ∃ v' w', (Builtin.append_ #[t, t] ty #[v, .slice a m cap]).run P w = .ok v' w' ∧ w'.ownsRow B e 3 v' (n + m) (hcells (xs ++ ys)) ∧ w.grownBy w' v.ownBlock ∧ Below B w w' := by
  have hvb := fun k (hk : v.ownBlock = some k) => (World.ownsRow.lt hown k hk).1
  by_cases h0 : m = 0
  · subst h0
    have hy : ys = [] := List.length_eq_zero_iff.1 hm
    subst hy
    refine ⟨v, w, ?_, by simpa using hown, ⟨rfl, rfl, rfl, Nat.le_refl _, fun _ _ _ => rfl⟩, Below.refl _ _⟩
    have hf : ∀ ad : Addr, (Builtin.firstCells 3 0 (.slice (some ad) 0 cap)).run P w = .ok #[] w := fun ad => run_firstCells_some w 3 0 ad 0 cap [] (by simp) (fun j u h => by cases h)
    have hf0 := run_firstCells_none (P := P) w 3 0 0 cap
    rcases hown.2 with ⟨rfl, rfl⟩ | ⟨g, cap', cur, rfl, _, _, hnc, _⟩
    · cases a <;> simp [Builtin.append_, run_underlying ht, sizeOf, typeInfo, hi, hs, Builtin.lenOf, hf, hf0]
    · cases a <;> simp [Builtin.append_, run_underlying ht, sizeOf, typeInfo, hi, hs, Builtin.lenOf, hf, hf0, hnc, storeCells]
  · obtain ⟨b, off, rfl, _, hc⟩ := hl.cells (by omega)
    obtain ⟨g, cap', w', hr, h2, h3, h4, h5⟩ := run_append_lies (P := P) w t ty B e i z 3 32 ht hi hz hs hby hzs (by decide) v n (hcells xs) hown ⟨b, off, none⟩ m cap (hcells ys) (by rw [hcells_len]; omega)
      (fun j u hu => by rw [show (⟨b, off, none⟩ : Addr).add j = ⟨b, off + j, none⟩ by unfold Addr.add; split <;> simp_all]; exact hc j u hu)
      (hcells_one ys) (by omega) (by unfold maxLen; omega) hsz hB _ rfl
    exact ⟨_, w', hr, by rw [hcells_append]; exact h2, h3, (Below.refl B w).grown h3 hB hvb⟩
/-- What an own row says. -/
theorem own_hlies {B : Nat} {e : TypeId} {xs : List HC} {v : Value} {n : Nat} {w : World} (hn : xs.length = n) (hr : w.ownsRow B e 3 v n (hcells xs)) : ∃ a cap, v = .slice a n cap ∧ n ≤ cap ∧ cap ≤ 9223372036854775807 ∧ HLies w.heap.size w a xs ∧ (∀ b off s, a = some ⟨b, off, s⟩ → B ≤ b) := by
  subst hn
  have hc := fun g => World.ownsRow.cells hr (g := g)
  have hlt := World.ownsRow.lt hr
  obtain ⟨_, h1 | ⟨g, cap, cur, hv, h2⟩⟩ := hr
  · refine ⟨none, 0, by rw [h1.1, h1.2], by omega, by omega, fun i hi => ?_, fun _ _ _ h => by cases h⟩
    omega
  · subst hv
    have hcp := h2.2.2
    have hcm : cap ≤ 9223372036854775807 := hcp.2.1
    refine ⟨some ⟨g, 0, none⟩, cap, rfl, hcp.1, hcm, fun i hi => ?_, fun b off s h => by injection h with h; injection h with h1; rw [← h1]; exact h2.1⟩
    obtain ⟨g1, g2, g3⟩ := hcells_get xs i hi
    have c1 := hc g rfl _ _ g1
    have c2 := hc g rfl _ _ g2
    have c3 := hc g rfl _ _ g3
    have ea : ∀ k, (⟨g, 0, none⟩ : Addr).add k = ⟨g, 0 + k, none⟩ := fun k => by unfold Addr.add; split <;> simp_all
    rw [ea] at c1 c2 c3
    exact ⟨g, 0, rfl, (hlt g rfl).2, c1, c2, c3⟩
/-! The Cell's and the Share's functions. -/
theorem Try.infoCell : (Try.prog.info? 30).map (fun i => (i.zero, i.size, i.bytes)) = some (some (.agg #[.int .i64 0, .string ByteArray.empty, .int .i64 0]), 3, 32) := by kernel_rfl
theorem Try.infoShare : (Try.prog.info? 44).map (fun i => (i.zero, i.size, i.bytes)) = some (some (.agg #[.int .i64 0, .string ByteArray.empty, .int .i64 0]), 3, 32) := by kernel_rfl
theorem info_parts {p : Option TypeInfo} {a : Option Value} {b c : Nat} (h : p.map (fun i => (i.zero, i.size, i.bytes)) = some (a, b, c)) : ∃ i, p = some i ∧ i.zero = a ∧ i.size = b ∧ i.bytes = c := by
  cases p with
  | none => cases h
  | some i => simp at h; exact ⟨i, rfl, h.1, h.2.1, h.2.2⟩

/-- slices.Grow of nil. -/
theorem growCell_any (n : Nat) (w : World) (hn : n ≤ 1000000) :
    Calls Try.prog 36 #[.slice none 0 0, .int .i64 n] w fun e w' => ∃ v, e = .returned v ∧ w'.ownsRow w.heap.size 30 3 v 0 [] ∧ Below w.heap.size w w' := by
  obtain ⟨i0, hi, hz0, hz1, hz2⟩ := info_parts Try.infoCell
  by_cases h0 : n = 0
  · subst h0
    go_enter Try.func36, Try.ntmps36
    go_wp2_with fail
    go_ret
    exact ⟨_, rfl, World.ownsRow_nil _ _ _ _, Below.refl _ _⟩
  · have hrz : ∀ ty, (Builtin.append_ #[22, 3] ty #[.slice none 0 0, .int .i64 n]).run Try.prog w = .ok (.slice (some ⟨w.heap.size, 0, none⟩) n (grownCap w n 0 30)) (w.drew.alloc (.cells (Builtin.zeroCells (Value.agg #[.int .i64 0, .string ByteArray.empty, .int .i64 0]).cells n ++ Builtin.zeroCells (Value.agg #[.int .i64 0, .string ByteArray.empty, .int .i64 0]).cells (grownCap w n 0 30 - n)) 30)) := fun ty => by
      have h := Lib.run_append_grow_zeros w 22 3 ty 30 i0 _ .i64 .i64 Try.underlying22 Try.underlying3 hi hz0 none 0 0 [] (run_firstCells_none w.drew i0.size 0 0 0) n (by omega) (by omega) (by omega) (by omega) (by rw [hz2]; omega)
        (by have := nextslicecap_le (need := 0 + n) (old := 0) (by omega); rw [hz2]; omega)
      simpa using h
    have h1 : ¬ ((n : Int) < 0) := by omega
    have h4 : (n : Int) > 0 := by omega
    have h5 : (0 : Int) < (n : Int) := by omega
    have HG : Hid (n ≤ grownCap w n 0 30 ∧ grownCap w n 0 30 ≤ maxLen) := ⟨grownCap_ge w _ _ _, grownCap_le_maxLen w n 0 _ (by unfold maxLen; omega)⟩
    generalize grownCap w n 0 30 = G at hrz HG
    go_enter Try.func36, Try.ntmps36
    go_wp2_with (at_builtin; refine Lib.wpList_append_run _ rfl _ _ _ _ rfl _ _ rfl rfl _ _ (hrz _) ?_)
    all_goals
      go_ret
      refine ⟨_, rfl, World.ownsRow_made w.drew _ G (Nat.le_refl _) HG.out.2 ?_, (Below.refl _ w).drew.alloc (Nat.le_refl _) _⟩
      have := HG.out.1
      simp [size_zeroCells, Value.cells]
      omega

/-- slices.Grow of nil. -/
theorem growShare_any (n : Nat) (w : World) (hn : n ≤ 1000000) :
    Calls Try.prog 37 #[.slice none 0 0, .int .i64 n] w fun e w' => ∃ v, e = .returned v ∧ w'.ownsRow w.heap.size 44 3 v 0 [] ∧ Below w.heap.size w w' := by
  obtain ⟨i0, hi, hz0, hz1, hz2⟩ := info_parts Try.infoShare
  by_cases h0 : n = 0
  · subst h0
    go_enter Try.func37, Try.ntmps37
    go_wp2_with fail
    go_ret
    exact ⟨_, rfl, World.ownsRow_nil _ _ _ _, Below.refl _ _⟩
  · have hrz : ∀ ty, (Builtin.append_ #[42, 3] ty #[.slice none 0 0, .int .i64 n]).run Try.prog w = .ok (.slice (some ⟨w.heap.size, 0, none⟩) n (grownCap w n 0 44)) (w.drew.alloc (.cells (Builtin.zeroCells (Value.agg #[.int .i64 0, .string ByteArray.empty, .int .i64 0]).cells n ++ Builtin.zeroCells (Value.agg #[.int .i64 0, .string ByteArray.empty, .int .i64 0]).cells (grownCap w n 0 44 - n)) 44)) := fun ty => by
      have h := Lib.run_append_grow_zeros w 42 3 ty 44 i0 _ .i64 .i64 Try.underlying42 Try.underlying3 hi hz0 none 0 0 [] (run_firstCells_none w.drew i0.size 0 0 0) n (by omega) (by omega) (by omega) (by omega) (by rw [hz2]; omega)
        (by have := nextslicecap_le (need := 0 + n) (old := 0) (by omega); rw [hz2]; omega)
      simpa using h
    have h1 : ¬ ((n : Int) < 0) := by omega
    have h4 : (n : Int) > 0 := by omega
    have h5 : (0 : Int) < (n : Int) := by omega
    have HG : Hid (n ≤ grownCap w n 0 44 ∧ grownCap w n 0 44 ≤ maxLen) := ⟨grownCap_ge w _ _ _, grownCap_le_maxLen w n 0 _ (by unfold maxLen; omega)⟩
    generalize grownCap w n 0 44 = G at hrz HG
    go_enter Try.func37, Try.ntmps37
    go_wp2_with (at_builtin; refine Lib.wpList_append_run _ rfl _ _ _ _ rfl _ _ rfl rfl _ _ (hrz _) ?_)
    all_goals
      go_ret
      refine ⟨_, rfl, World.ownsRow_made w.drew _ G (Nat.le_refl _) HG.out.2 ?_, (Below.refl _ w).drew.alloc (Nat.le_refl _) _⟩
      have := HG.out.1
      simp [size_zeroCells, Value.cells]
      omega

/-- slices.Concat of 2. -/
theorem concat2Cell_any (g : Nat) (a1 : Option Addr) (m1 cap1 : Nat) (x1 : List HC) (a2 : Option Addr) (m2 cap2 : Nat) (x2 : List HC) (w : World) (hm1 : x1.length = m1) (hk1 : m1 ≤ 40000) (hl1 : HLies w.heap.size w a1 x1) (hg1 : w.cell? ⟨g, 0, none⟩ = some (.slice a1 m1 cap1)) (hm2 : x2.length = m2) (hk2 : m2 ≤ 40000) (hl2 : HLies w.heap.size w a2 x2) (hg2 : w.cell? ⟨g, 1, none⟩ = some (.slice a2 m2 cap2)) (hgb : g < w.heap.size) :
    Calls Try.prog 27 #[.slice (some ⟨g, 0, none⟩) 2 2] w fun e w' => ∃ v, e = .returned v ∧ w'.ownsRow w.heap.size 30 3 v (m1 + m2) (hcells (x1 ++ x2)) ∧ Below w.heap.size w w' := by
  obtain ⟨i0, hi, hz0, hz1, hz2⟩ := info_parts Try.infoCell
  have HL1 := Lib.hid hl1
  have HM1 := Lib.hid hm1
  have HL2 := Lib.hid hl2
  have HM2 := Lib.hid hm2
  have hw1 : IntKind.i64.wrap (0 + (m1 : Int)) = (m1 : Int) := by rw [Int.zero_add]; exact IntWalk.i64_in _ (by omega)
  have hn1 : ¬ ((m1 : Int) < 0) := by omega
  have hw2 : IntKind.i64.wrap ((m1 : Int) + (m2 : Int)) = ((m1 + m2 : Nat) : Int) := by rw [← Int.natCast_add]; exact IntWalk.i64_in _ (by omega)
  have hn2 : ¬ (((m1 + m2 : Nat) : Int) < 0) := by omega
  have HGR := Lib.hid (growCell_any (m1 + m2) w (by omega))
  have e1 := hg1
  have e2 := hg2
  clear hl1 hm1 hl2 hm2
  go_enter Try.func27, Try.ntmps27
  go_wp2_with fail
  refine wp_loop_rounds 3 ?_
  rw [rounds_succ]
  go_wp2_with fail
  rw [rounds_succ]
  go_wp2_with fail
  rw [rounds_succ]
  go_wp2_with fail
  refine HGR.out.mono ?_
  rintro e w1 ⟨v0, rfl, ho1, hb1⟩
  have q1 := (hb1.cell (p := ⟨g, 0, none⟩) hgb).trans hg1
  have q2 := (hb1.cell (p := ⟨g, 1, none⟩) hgb).trans hg2
  have B1 := Lib.hid hb1
  have O1 := Lib.hid ho1
  clear hb1 ho1 HGR hg1 e1 hg2 e2
  go_wp2_with fail
  refine wp_loop_rounds 3 ?_
  rw [rounds_succ]
  obtain ⟨v1, w2, hr1, ho1, hgr1, hb1⟩ := run_append_h (P := Try.prog) (w := w1) w.heap.size 22 22 30 i0 _ Try.underlying22 hi hz0 hz1 hz2 rfl v0 (0) ([]) (by simp [List.length_nil]) O1.out B1.out.size a1 m1 cap1 x1 HM1.out ((HL1.out.below B1.out).mono B1.out.size) (by omega)
  have B2 := Lib.hid (B1.out.trans hb1)
  have O2 := Lib.hid ho1
  have q2 := (hb1.cell (p := ⟨g, 1, none⟩) hgb).trans q2
  clear hb1 ho1 hgr1
  go_wp2_with (at_builtin; refine Lib.wpList_append_run _ rfl _ _ _ _ rfl _ _ rfl rfl _ _ hr1 ?_)
  rw [rounds_succ]
  obtain ⟨v2, w3, hr2, ho2, hgr2, hb2⟩ := run_append_h (P := Try.prog) (w := w2) w.heap.size 22 22 30 i0 _ Try.underlying22 hi hz0 hz1 hz2 rfl v1 (0 + m1) ([] ++ x1) (by simp [HM1.out]) O2.out B2.out.size a2 m2 cap2 x2 HM2.out ((HL2.out.below B2.out).mono B2.out.size) (by omega)
  have B3 := Lib.hid (B2.out.trans hb2)
  have O3 := Lib.hid ho2
  clear hb2 ho2 hgr2
  go_wp2_with (at_builtin; refine Lib.wpList_append_run _ rfl _ _ _ _ rfl _ _ rfl rfl _ _ hr2 ?_)
  rw [rounds_succ]
  go_wp2_with fail
  go_ret
  exact ⟨_, rfl, by simpa using O3.out, B3.out⟩

/-- slices.Concat of 3. -/
theorem concat3Cell_any (g : Nat) (a1 : Option Addr) (m1 cap1 : Nat) (x1 : List HC) (a2 : Option Addr) (m2 cap2 : Nat) (x2 : List HC) (a3 : Option Addr) (m3 cap3 : Nat) (x3 : List HC) (w : World) (hm1 : x1.length = m1) (hk1 : m1 ≤ 40000) (hl1 : HLies w.heap.size w a1 x1) (hg1 : w.cell? ⟨g, 0, none⟩ = some (.slice a1 m1 cap1)) (hm2 : x2.length = m2) (hk2 : m2 ≤ 40000) (hl2 : HLies w.heap.size w a2 x2) (hg2 : w.cell? ⟨g, 1, none⟩ = some (.slice a2 m2 cap2)) (hm3 : x3.length = m3) (hk3 : m3 ≤ 40000) (hl3 : HLies w.heap.size w a3 x3) (hg3 : w.cell? ⟨g, 2, none⟩ = some (.slice a3 m3 cap3)) (hgb : g < w.heap.size) :
    Calls Try.prog 27 #[.slice (some ⟨g, 0, none⟩) 3 3] w fun e w' => ∃ v, e = .returned v ∧ w'.ownsRow w.heap.size 30 3 v (m1 + m2 + m3) (hcells (x1 ++ x2 ++ x3)) ∧ Below w.heap.size w w' := by
  obtain ⟨i0, hi, hz0, hz1, hz2⟩ := info_parts Try.infoCell
  have HL1 := Lib.hid hl1
  have HM1 := Lib.hid hm1
  have HL2 := Lib.hid hl2
  have HM2 := Lib.hid hm2
  have HL3 := Lib.hid hl3
  have HM3 := Lib.hid hm3
  have hw1 : IntKind.i64.wrap (0 + (m1 : Int)) = (m1 : Int) := by rw [Int.zero_add]; exact IntWalk.i64_in _ (by omega)
  have hn1 : ¬ ((m1 : Int) < 0) := by omega
  have hw2 : IntKind.i64.wrap ((m1 : Int) + (m2 : Int)) = ((m1 + m2 : Nat) : Int) := by rw [← Int.natCast_add]; exact IntWalk.i64_in _ (by omega)
  have hn2 : ¬ (((m1 + m2 : Nat) : Int) < 0) := by omega
  have hw3 : IntKind.i64.wrap (((m1 + m2 : Nat) : Int) + (m3 : Int)) = ((m1 + m2 + m3 : Nat) : Int) := by rw [← Int.natCast_add]; exact IntWalk.i64_in _ (by omega)
  have hn3 : ¬ (((m1 + m2 + m3 : Nat) : Int) < 0) := by omega
  have HGR := Lib.hid (growCell_any (m1 + m2 + m3) w (by omega))
  have e1 := hg1
  have e2 := hg2
  have e3 := hg3
  clear hl1 hm1 hl2 hm2 hl3 hm3
  go_enter Try.func27, Try.ntmps27
  go_wp2_with fail
  refine wp_loop_rounds 4 ?_
  rw [rounds_succ]
  go_wp2_with fail
  rw [rounds_succ]
  go_wp2_with fail
  rw [rounds_succ]
  go_wp2_with fail
  rw [rounds_succ]
  go_wp2_with fail
  refine HGR.out.mono ?_
  rintro e w1 ⟨v0, rfl, ho1, hb1⟩
  have q1 := (hb1.cell (p := ⟨g, 0, none⟩) hgb).trans hg1
  have q2 := (hb1.cell (p := ⟨g, 1, none⟩) hgb).trans hg2
  have q3 := (hb1.cell (p := ⟨g, 2, none⟩) hgb).trans hg3
  have B1 := Lib.hid hb1
  have O1 := Lib.hid ho1
  clear hb1 ho1 HGR hg1 e1 hg2 e2 hg3 e3
  go_wp2_with fail
  refine wp_loop_rounds 4 ?_
  rw [rounds_succ]
  obtain ⟨v1, w2, hr1, ho1, hgr1, hb1⟩ := run_append_h (P := Try.prog) (w := w1) w.heap.size 22 22 30 i0 _ Try.underlying22 hi hz0 hz1 hz2 rfl v0 (0) ([]) (by simp [List.length_nil]) O1.out B1.out.size a1 m1 cap1 x1 HM1.out ((HL1.out.below B1.out).mono B1.out.size) (by omega)
  have B2 := Lib.hid (B1.out.trans hb1)
  have O2 := Lib.hid ho1
  have q2 := (hb1.cell (p := ⟨g, 1, none⟩) hgb).trans q2
  have q3 := (hb1.cell (p := ⟨g, 2, none⟩) hgb).trans q3
  clear hb1 ho1 hgr1
  go_wp2_with (at_builtin; refine Lib.wpList_append_run _ rfl _ _ _ _ rfl _ _ rfl rfl _ _ hr1 ?_)
  rw [rounds_succ]
  obtain ⟨v2, w3, hr2, ho2, hgr2, hb2⟩ := run_append_h (P := Try.prog) (w := w2) w.heap.size 22 22 30 i0 _ Try.underlying22 hi hz0 hz1 hz2 rfl v1 (0 + m1) ([] ++ x1) (by simp [HM1.out]) O2.out B2.out.size a2 m2 cap2 x2 HM2.out ((HL2.out.below B2.out).mono B2.out.size) (by omega)
  have B3 := Lib.hid (B2.out.trans hb2)
  have O3 := Lib.hid ho2
  have q3 := (hb2.cell (p := ⟨g, 2, none⟩) hgb).trans q3
  clear hb2 ho2 hgr2
  go_wp2_with (at_builtin; refine Lib.wpList_append_run _ rfl _ _ _ _ rfl _ _ rfl rfl _ _ hr2 ?_)
  rw [rounds_succ]
  obtain ⟨v3, w4, hr3, ho3, hgr3, hb3⟩ := run_append_h (P := Try.prog) (w := w3) w.heap.size 22 22 30 i0 _ Try.underlying22 hi hz0 hz1 hz2 rfl v2 (0 + m1 + m2) ([] ++ x1 ++ x2) (by simp [HM1.out, HM2.out]) O3.out B3.out.size a3 m3 cap3 x3 HM3.out ((HL3.out.below B3.out).mono B3.out.size) (by omega)
  have B4 := Lib.hid (B3.out.trans hb3)
  have O4 := Lib.hid ho3
  clear hb3 ho3 hgr3
  go_wp2_with (at_builtin; refine Lib.wpList_append_run _ rfl _ _ _ _ rfl _ _ rfl rfl _ _ hr3 ?_)
  rw [rounds_succ]
  go_wp2_with fail
  go_ret
  exact ⟨_, rfl, by simpa using O4.out, B4.out⟩

/-- slices.Concat of 2. -/
theorem concat2Share_any (g : Nat) (a1 : Option Addr) (m1 cap1 : Nat) (x1 : List HC) (a2 : Option Addr) (m2 cap2 : Nat) (x2 : List HC) (w : World) (hm1 : x1.length = m1) (hk1 : m1 ≤ 40000) (hl1 : HLies w.heap.size w a1 x1) (hg1 : w.cell? ⟨g, 0, none⟩ = some (.slice a1 m1 cap1)) (hm2 : x2.length = m2) (hk2 : m2 ≤ 40000) (hl2 : HLies w.heap.size w a2 x2) (hg2 : w.cell? ⟨g, 1, none⟩ = some (.slice a2 m2 cap2)) (hgb : g < w.heap.size) :
    Calls Try.prog 28 #[.slice (some ⟨g, 0, none⟩) 2 2] w fun e w' => ∃ v, e = .returned v ∧ w'.ownsRow w.heap.size 44 3 v (m1 + m2) (hcells (x1 ++ x2)) ∧ Below w.heap.size w w' := by
  obtain ⟨i0, hi, hz0, hz1, hz2⟩ := info_parts Try.infoShare
  have HL1 := Lib.hid hl1
  have HM1 := Lib.hid hm1
  have HL2 := Lib.hid hl2
  have HM2 := Lib.hid hm2
  have hw1 : IntKind.i64.wrap (0 + (m1 : Int)) = (m1 : Int) := by rw [Int.zero_add]; exact IntWalk.i64_in _ (by omega)
  have hn1 : ¬ ((m1 : Int) < 0) := by omega
  have hw2 : IntKind.i64.wrap ((m1 : Int) + (m2 : Int)) = ((m1 + m2 : Nat) : Int) := by rw [← Int.natCast_add]; exact IntWalk.i64_in _ (by omega)
  have hn2 : ¬ (((m1 + m2 : Nat) : Int) < 0) := by omega
  have HGR := Lib.hid (growShare_any (m1 + m2) w (by omega))
  have e1 := hg1
  have e2 := hg2
  clear hl1 hm1 hl2 hm2
  go_enter Try.func28, Try.ntmps28
  go_wp2_with fail
  refine wp_loop_rounds 3 ?_
  rw [rounds_succ]
  go_wp2_with fail
  rw [rounds_succ]
  go_wp2_with fail
  rw [rounds_succ]
  go_wp2_with fail
  refine HGR.out.mono ?_
  rintro e w1 ⟨v0, rfl, ho1, hb1⟩
  have q1 := (hb1.cell (p := ⟨g, 0, none⟩) hgb).trans hg1
  have q2 := (hb1.cell (p := ⟨g, 1, none⟩) hgb).trans hg2
  have B1 := Lib.hid hb1
  have O1 := Lib.hid ho1
  clear hb1 ho1 HGR hg1 e1 hg2 e2
  go_wp2_with fail
  refine wp_loop_rounds 3 ?_
  rw [rounds_succ]
  obtain ⟨v1, w2, hr1, ho1, hgr1, hb1⟩ := run_append_h (P := Try.prog) (w := w1) w.heap.size 42 42 44 i0 _ Try.underlying42 hi hz0 hz1 hz2 rfl v0 (0) ([]) (by simp [List.length_nil]) O1.out B1.out.size a1 m1 cap1 x1 HM1.out ((HL1.out.below B1.out).mono B1.out.size) (by omega)
  have B2 := Lib.hid (B1.out.trans hb1)
  have O2 := Lib.hid ho1
  have q2 := (hb1.cell (p := ⟨g, 1, none⟩) hgb).trans q2
  clear hb1 ho1 hgr1
  go_wp2_with (at_builtin; refine Lib.wpList_append_run _ rfl _ _ _ _ rfl _ _ rfl rfl _ _ hr1 ?_)
  rw [rounds_succ]
  obtain ⟨v2, w3, hr2, ho2, hgr2, hb2⟩ := run_append_h (P := Try.prog) (w := w2) w.heap.size 42 42 44 i0 _ Try.underlying42 hi hz0 hz1 hz2 rfl v1 (0 + m1) ([] ++ x1) (by simp [HM1.out]) O2.out B2.out.size a2 m2 cap2 x2 HM2.out ((HL2.out.below B2.out).mono B2.out.size) (by omega)
  have B3 := Lib.hid (B2.out.trans hb2)
  have O3 := Lib.hid ho2
  clear hb2 ho2 hgr2
  go_wp2_with (at_builtin; refine Lib.wpList_append_run _ rfl _ _ _ _ rfl _ _ rfl rfl _ _ hr2 ?_)
  rw [rounds_succ]
  go_wp2_with fail
  go_ret
  exact ⟨_, rfl, by simpa using O3.out, B3.out⟩
end Go.Proofs.Yteiomafciignkaa
