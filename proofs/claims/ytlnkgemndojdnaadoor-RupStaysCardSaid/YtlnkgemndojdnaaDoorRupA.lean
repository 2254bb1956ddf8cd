/- slices.Concat of two lists of rows of ints: a list of its own. -/
import Derived.Test.YtlnkgemndojdnaaDoorPrpGB
import Derived.Test.YtlnkgemndojdnaaDoorPrpT
import Derived.Lib.AppendZerosOnto
set_option linter.unusedVariables false
set_option linter.unusedSimpArgs false
namespace Go.Proofs.YtlnkgemndojdnaaDoor
set_option maxRecDepth 100000
open Go.RowKit

theorem gforms_len (xs : List GT) : (gforms xs).length = xs.length := by simp [gforms]
theorem gforms_append (xs ys : List GT) : gforms (xs ++ ys) = gforms xs ++ gforms ys := by simp [gforms]
theorem gcells_append (xs ys : List GT) : gcells (xs ++ ys) = gcells xs ++ gcells ys := by simp [gcells]
theorem gcells_len (xs : List GT) : (gcells xs).length = xs.length := by simp [gcells]
theorem gforms_get {xs : List GT} {i : Nat} (hi : i < xs.length) : (gforms xs).getD i [] = xs[i].l := by simp [gforms, List.getD_eq_getElem?_getD, hi]
/-- What rows are made of. -/
theorem CLies.rows {B : Nat} {w : World} {a : Option Addr} : ∀ {cs : List (List Int)}, CLies B w a cs → ∃ xs : List GT, gforms xs = cs ∧ (∀ x ∈ xs, Nums B w x.a x.l) ∧ (0 < cs.length → ∃ b off, a = some ⟨b, off, none⟩ ∧ b < B ∧ ∀ j u, (gcells xs)[j]? = some u → w.cell? ⟨b, off + j, none⟩ = some u) := by
  intro cs h
  obtain ⟨xs, hxl, hx⟩ := list_ofD ⟨none, 0, []⟩ cs.length (fun i (x : GT) => x.l = cs.getD i [] ∧ Nums B w x.a x.l ∧ ∃ b off, a = some ⟨b, off, none⟩ ∧ b < B ∧ w.cell? ⟨b, off + i, none⟩ = some (.slice x.a x.l.length x.cap)) (fun i hi => by
    obtain ⟨b, off, ta, tcap, ha, hlt, h1, h2⟩ := h i hi
    exact ⟨⟨ta, tcap, cs.getD i []⟩, rfl, h2, b, off, ha, hlt, h1⟩)
  have hxi : ∀ i (hi : i < xs.length), xs.getD i ⟨none, 0, []⟩ = xs[i] := fun i hi => by simp [List.getD_eq_getElem?_getD, hi]
  refine ⟨xs, ?_, fun x hx' => ?_, fun hpos => ?_⟩
  · apply List.ext_getElem (by rw [gforms_len]; exact hxl)
    intro i h1 h2
    have h3 := (hx i h2).1
    have h4 : i < xs.length := by rw [gforms_len] at h1; exact h1
    rw [hxi i h4] at h3
    rw [show (gforms xs)[i] = xs[i].l by simp [gforms], h3]
    simp [List.getD_eq_getElem?_getD, h2]
  · obtain ⟨i, hi, rfl⟩ := List.getElem_of_mem hx'
    have h3 := (hx i (by omega)).2.1
    rwa [hxi i hi] at h3
  · obtain ⟨_, _, b, off, ha, hlt, _⟩ := hx 0 hpos
    refine ⟨b, off, ha, hlt, fun j u hu => ?_⟩
    have hj : j < xs.length := by have := (List.getElem?_eq_some_iff.1 hu).1; rwa [gcells_len] at this
    obtain ⟨_, _, b', off', ha', _, hc⟩ := hx j (by omega)
    rw [hxi j hj] at hc
    rw [ha] at ha'
    obtain ⟨rfl, rfl⟩ : b = b' ∧ off = off' := by injection ha' with e; injection e with e1 e2 e3; exact ⟨e1, e2⟩
    rw [hc, ← hu]
    simp [gcells, hj]
/-- append(own, rows...): whatever rows. -/
theorem run_append_rows {P : Program} {w : World} (B : Nat) (t ty e : TypeId) (i : TypeInfo) (z : Value) (ht : P.underlying t = some (.slice e)) (hi : P.info? e = some i) (hz : i.zero = some z) (hs : i.size = 1) (hby : i.bytes = 24) (hzs : z.cells.size = 1)
    (v : Value) (n : Nat) (xs : List GT) (hn : xs.length = n) (hown : w.ownsRow B e 1 v n (gcells xs)) (hB : B ≤ w.heap.size) (a : Option Addr) (m cap : Nat) (ys : List GT) (hm : ys.length = m)
    (hl : 0 < m → ∃ b off, a = some ⟨b, off, none⟩ ∧ ∀ j u, (gcells ys)[j]? = some u → w.cell? ⟨b, off + j, none⟩ = some u) (hsz : (n + m) * 24 ≤ 140737488355328) :
    ∃ v' w', (Builtin.append_ #[t, t] ty #[v, .slice a m cap]).run P w = .ok v' w' ∧ w'.ownsRow B e 1 v' (n + m) (gcells (xs ++ ys)) ∧ w.grownBy w' v.ownBlock ∧ Below B w w' := by
  have hvb := fun k (hk : v.ownBlock = some k) => (World.ownsRow.lt hown k hk).1
  by_cases h0 : m = 0
  · subst h0
    have hy : ys = [] := List.length_eq_zero_iff.1 hm
    subst hy
    refine ⟨v, w, ?_, by simpa using hown, ⟨rfl, rfl, rfl, Nat.le_refl _, fun _ _ _ => rfl⟩, Below.refl _ _⟩
    have hf : ∀ ad : Addr, (Builtin.firstCells 1 0 (.slice (some ad) 0 cap)).run P w = .ok #[] w := fun ad => run_firstCells_some w 1 0 ad 0 cap [] (by simp) (fun j u h => by cases h)
    have hf0 := run_firstCells_none (P := P) w 1 0 0 cap
    rcases hown.2 with ⟨rfl, rfl⟩ | ⟨g, cap', cur, rfl, _, _, hnc, _⟩
    · cases a <;> simp [Builtin.append_, run_underlying ht, sizeOf, typeInfo, hi, hs, Builtin.lenOf, hf, hf0]
    · cases a <;> simp [Builtin.append_, run_underlying ht, sizeOf, typeInfo, hi, hs, Builtin.lenOf, hf, hf0, hnc, storeCells]
  · obtain ⟨b, off, rfl, hc⟩ := hl (by omega)
    obtain ⟨g, cap', w', hr, h2, h3, h4, h5⟩ := run_append_lies (P := P) w t ty B e i z 1 24 ht hi hz hs hby hzs (by decide) v n (gcells xs) hown ⟨b, off, none⟩ m cap (gcells ys) (by rw [gcells_len]; omega)
      (fun j u hu => by rw [show (⟨b, off, none⟩ : Addr).add j = ⟨b, off + j, none⟩ by unfold Addr.add; split <;> simp_all]; exact hc j u hu)
      (fun u hu => by obtain ⟨x, _, rfl⟩ := List.mem_map.1 hu; rfl) (by omega) (by unfold maxLen; omega) hsz hB _ rfl
    exact ⟨_, w', hr, by rw [gcells_append]; exact h2, h3, (Below.refl B w).grown h3 hB hvb⟩
/-- What an own list of rows says. -/
theorem own_clies {B : Nat} {xs : List GT} {v : Value} {n : Nat} {w : World} (hn : xs.length = n) (hr : w.ownsRow B 34 1 v n (gcells xs)) (hx : ∀ x ∈ xs, Nums w.heap.size w x.a x.l) : ∃ a cap, v = .slice a n cap ∧ n ≤ cap ∧ cap ≤ 9223372036854775807 ∧ CLies w.heap.size w a (gforms xs) := by
  subst hn
  have hc := fun g => World.ownsRow.cells hr (g := g)
  have hlt := World.ownsRow.lt hr
  obtain ⟨_, h1 | ⟨g, cap, cur, hv, h2⟩⟩ := hr
  · refine ⟨none, 0, by rw [h1.1, h1.2], by omega, by omega, fun i hi => ?_⟩
    rw [gforms_len] at hi; omega
  · subst hv
    have hcp := h2.2.2
    have hcm : cap ≤ 9223372036854775807 := hcp.2.1
    refine ⟨some ⟨g, 0, none⟩, cap, rfl, hcp.1, hcm, fun i hi => ?_⟩
    have hi : i < xs.length := by rwa [gforms_len] at hi
    have e2 : (gcells xs)[i]? = some (.slice xs[i].a xs[i].l.length xs[i].cap) := by simp [gcells, hi]
    rw [gforms_get hi]
    refine ⟨g, 0, xs[i].a, xs[i].cap, rfl, (hlt g rfl).2, ?_, hx _ (List.getElem_mem hi)⟩
    have := hc g rfl i _ e2
    rwa [show (⟨g, 0, none⟩ : Addr).add i = ⟨g, 0 + i, none⟩ by unfold Addr.add; split <;> simp_all] at this
/-- slices.Grow of nil. -/
theorem grow_any (n : Nat) (w : World) (hn : n ≤ 1000000) :
    Calls Tryd.prog 27 #[.slice none 0 0, .int .i64 n] w fun e w' => ∃ v, e = .returned v ∧ w'.ownsRow w.heap.size 34 1 v 0 [] ∧ Below w.heap.size w w' := by
  obtain ⟨i0, hi, hz0, hz1, hz2⟩ := info_parts Tryd.infoInts
  by_cases h0 : n = 0
  · subst h0
    go_enter Tryd.func27, Tryd.ntmps27
    go_wp2_with fail
    go_ret
    exact ⟨_, rfl, World.ownsRow_nil _ _ _ _, Below.refl _ _⟩
  · have hrz : ∀ ty, (Builtin.append_ #[22, 3] ty #[.slice none 0 0, .int .i64 n]).run Tryd.prog w = .ok (.slice (some ⟨w.heap.size, 0, none⟩) n (grownCap w n 0 34)) (w.drew.alloc (.cells (Builtin.zeroCells (Value.slice none 0 0).cells n ++ Builtin.zeroCells (Value.slice none 0 0).cells (grownCap w n 0 34 - n)) 34)) := fun ty => by
      have h := Lib.run_append_grow_zeros w 22 3 ty 34 i0 _ .i64 .i64 Tryd.underlying22 Tryd.underlying3 hi hz0 none 0 0 [] (run_firstCells_none w.drew i0.size 0 0 0) n (by omega) (by omega) (by omega) (by omega) (by rw [hz2]; omega)
        (by have := nextslicecap_le (need := 0 + n) (old := 0) (by omega); rw [hz2]; omega)
      simpa using h
    have h1 : ¬ ((n : Int) < 0) := by omega
    have h4 : (n : Int) > 0 := by omega
    have h5 : (0 : Int) < (n : Int) := by omega
    have HG : Hid (n ≤ grownCap w n 0 34 ∧ grownCap w n 0 34 ≤ maxLen) := ⟨grownCap_ge w _ _ _, grownCap_le_maxLen w n 0 _ (by unfold maxLen; omega)⟩
    generalize grownCap w n 0 34 = G at hrz HG
    go_enter Tryd.func27, Tryd.ntmps27
    go_wp2_with (at_builtin; refine Lib.wpList_append_run _ rfl _ _ _ _ rfl _ _ rfl rfl _ _ (hrz _) ?_)
    all_goals
      go_ret
      refine ⟨_, rfl, World.ownsRow_made w.drew _ G (Nat.le_refl _) HG.out.2 ?_, (Below.refl _ w).drew.alloc (Nat.le_refl _) _⟩
      have := HG.out.1
      simp [size_zeroCells, Value.cells]
      omega
/-- slices.Concat of two. -/
theorem concat_any (g : Nat) (a : Option Addr) (m cap : Nat) (cs : List (List Int)) (a2 : Option Addr) (m2 cap2 : Nat) (ss : List (List Int)) (w : World) (hm : cs.length = m) (hm2 : ss.length = m2) (h1 : m ≤ 40000) (h2 : m2 ≤ 40000) (hl : CLies w.heap.size w a cs) (hl2 : CLies w.heap.size w a2 ss)
    (hg : w.cell? ⟨g, 0, none⟩ = some (.slice a m cap)) (hg2 : w.cell? ⟨g, 1, none⟩ = some (.slice a2 m2 cap2)) (hgb : g < w.heap.size) :
    Calls Tryd.prog 17 #[.slice (some ⟨g, 0, none⟩) 2 2] w fun e w' => ∃ b cap', e = .returned (.slice b (m + m2) cap') ∧ m + m2 ≤ cap' ∧ cap' ≤ 9223372036854775807 ∧ CLies w'.heap.size w' b (cs ++ ss) ∧ Below w.heap.size w w' := by
  obtain ⟨i0, hi, hz0, hz1, hz2⟩ := info_parts Tryd.infoInts
  obtain ⟨xs, rfl, hx, hxc⟩ := hl.rows
  obtain ⟨ys, rfl, hy, hyc⟩ := hl2.rows
  rw [gforms_len] at hm hxc hm2 hyc
  have HX := Lib.hid hx
  have HY := Lib.hid hy
  have HXC := Lib.hid hxc
  have HYC := Lib.hid hyc
  have HM := Lib.hid hm
  have HM2 := Lib.hid hm2
  have e1 := hg
  have e2 := hg2
  have hw1 : IntKind.i64.wrap (0 + (m : Int)) = (m : Int) := by rw [Int.zero_add]; exact IntWalk.i64_in _ (by omega)
  have hw2 : IntKind.i64.wrap ((m : Int) + (m2 : Int)) = ((m + m2 : Nat) : Int) := by rw [← Int.natCast_add]; exact IntWalk.i64_in _ (by omega)
  have hn1 : ¬ ((m : Int) < 0) := by omega
  have hn2 : ¬ (((m + m2 : Nat) : Int) < 0) := by omega
  have HGR := Lib.hid (grow_any (m + m2) w (by omega))
  clear hl hl2 hx hy hxc hyc hm hm2
  go_enter Tryd.func17, Tryd.ntmps17
  go_wp2_with fail
  refine wp_loop_rounds 3 ?_
  rw [rounds_succ]
  go_wp2_with fail
  rw [rounds_succ]
  go_wp2_with fail
  rw [rounds_succ]
  go_wp2_with fail
  refine HGR.out.mono ?_
  rintro e w1 ⟨v, rfl, ho1, hb1⟩
  have hg3 := (hb1.cell (p := ⟨g, 0, none⟩) hgb).trans hg
  have hg4 := (hb1.cell (p := ⟨g, 1, none⟩) hgb).trans hg2
  have B1 := Lib.hid hb1
  have O1 := Lib.hid ho1
  clear hb1 ho1 HGR hg hg2 e1 e2
  go_wp2_with fail
  refine wp_loop_rounds 3 ?_
  rw [rounds_succ]
  obtain ⟨v2, w2, hr2, ho2, hgr2, hb2⟩ := run_append_rows (P := Tryd.prog) (w := w1) w.heap.size 22 22 34 i0 _ Tryd.underlying22 hi hz0 hz1 hz2 rfl v 0 [] rfl O1.out B1.out.size a m cap xs HM.out (fun h => by
    obtain ⟨b, off, rfl, hlt, h3⟩ := HXC.out (by rw [HM.out]; exact h)
    exact ⟨b, off, rfl, fun j u hu => (B1.out.cell (p := ⟨b, off + j, none⟩) hlt).trans (h3 j u hu)⟩) (by omega)
  have B2 := Lib.hid (B1.out.trans hb2)
  have O2 := Lib.hid ho2
  have hg5 := (hb2.cell (p := ⟨g, 1, none⟩) hgb).trans hg4
  clear hb2 ho2 hgr2
  go_wp2_with (at_builtin; refine Lib.wpList_append_run _ rfl _ _ _ _ rfl _ _ rfl rfl _ _ hr2 ?_)
  rw [rounds_succ]
  obtain ⟨v3, w3, hr3, ho3, hgr3, hb3⟩ := run_append_rows (P := Tryd.prog) (w := w2) w.heap.size 22 22 34 i0 _ Tryd.underlying22 hi hz0 hz1 hz2 rfl v2 (0 + m) ([] ++ xs) (by rw [List.nil_append, HM.out, Nat.zero_add]) O2.out B2.out.size a2 m2 cap2 ys HM2.out (fun h => by
    obtain ⟨b, off, rfl, hlt, h3⟩ := HYC.out (by rw [HM2.out]; exact h)
    exact ⟨b, off, rfl, fun j u hu => (B2.out.cell (p := ⟨b, off + j, none⟩) hlt).trans (h3 j u hu)⟩) (by omega)
  have B3 := Lib.hid (B2.out.trans hb3)
  have O3 := Lib.hid ho3
  clear hb3 ho3 hgr3
  go_wp2_with (at_builtin; refine Lib.wpList_append_run _ rfl _ _ _ _ rfl _ _ rfl rfl _ _ hr3 ?_)
  rw [rounds_succ]
  go_wp2_with fail
  go_ret
  have hk := own_clies (by rw [List.nil_append, List.length_append, HM.out, HM2.out, Nat.zero_add]) O3.out (fun x hx => by
    rw [List.nil_append] at hx
    rcases List.mem_append.1 hx with h | h
    · exact ((HX.out x h).below B3.out).mono B3.out.size
    · exact ((HY.out x h).below B3.out).mono B3.out.size)
  obtain ⟨b, cap', rfl, hc1, hc2, hc⟩ := hk
  rw [Nat.zero_add] at hc1 ⊢
  exact ⟨b, cap', rfl, hc1, hc2, by rw [← gforms_append]; exact hc, B3.out⟩
end Go.Proofs.YtlnkgemndojdnaaDoor
