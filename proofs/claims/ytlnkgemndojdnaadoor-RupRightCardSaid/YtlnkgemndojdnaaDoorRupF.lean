/- The document's examples of layer 7; light. -/
import Derived.Test.YtlnkgemndojdnaaDoorRupE
set_option linter.unusedVariables false
set_option linter.unusedSimpArgs false
namespace Go.Proofs.YtlnkgemndojdnaaDoor
set_option maxRecDepth 100000
open Go.RowKit

def UpSaid7 : Prop := ∀ w : World, Laid0 w → Calls Tryd.prog 7 #[] w fun e w' => e = .returned (.bool true) ∧ Below w.heap.size w w'
/-! What the three examples answer. -/
theorem ex1 {x at' : Int} (h : RupIs 1 [[1], [-1]] [[]] x at') : x = 0 ∧ at' = -1 := by
  refine h.unique (.yes (by decide) (by decide) (fun j hj => ?_) (by simp))
  have : j = 0 := by simpa using hj
  subst this
  refine .inr ⟨1, .rule (c := [1]) (by simp) (by simp) (fun y hy hne => absurd (by simpa using hy) hne), .rule (c := [-1]) (by simp) (by simp) (fun y hy hne => absurd (by simpa using hy) hne)⟩
theorem ex2 {x at' : Int} (h : RupIs 1 [[1]] [[]] x at') : x = 9 ∧ at' = 0 := by
  refine h.unique (.step 0 (by decide) (by decide) (by decide) (fun j hj => absurd hj (Nat.not_lt_zero j)) ?_)
  refine Conf.not (v := fun l => 0 < l) (fun l h => by omega) (fun c hc => ?_) (fun l hl => ?_)
  · have : c = [1] := by simpa using hc
    subst this; exact ⟨1, by simp, by decide⟩
  · simp [negs] at hl
theorem ex3 {x at' : Int} (h : RupIs 1 [[1]] [] x at') : x = 8 ∧ at' = -1 :=
  h.unique (.opn (by decide) (by decide) (fun j hj => absurd hj (Nat.not_lt_zero j)) (by simp))
def e1W (w : World) : World := ((((w.alloc (.cells #[.int .i64 1] 3)).alloc (.cells #[.int .i64 (-1)] 3)).alloc (.cells #[.slice (some ⟨w.heap.size, 0, none⟩) 1 1, .slice (some ⟨w.heap.size + 1, 0, none⟩) 1 1] 34)).alloc (.cells #[] 3)).alloc (.cells #[.slice (some ⟨w.heap.size + 1 + 1 + 1, 0, none⟩) 0 0] 34)
theorem e1_given (w : World) : GivenC (e1W w) (some ⟨w.heap.size + 1 + 1, 0, none⟩) 2 [[1], [-1]] ∧ GivenC (e1W w) (some ⟨w.heap.size + 1 + 1 + 1 + 1, 0, none⟩) 1 [[]] ∧ Below w.heap.size w (e1W w) := by
  have hz : (e1W w).heap.size = w.heap.size + 5 := by simp [e1W]
  have h0 : (e1W w).heap[w.heap.size]? = some (.cells #[.int .i64 1] 3 (0, 0)) := (by simp only [e1W, heap_at, World.size_alloc]; repeat (first | rw [if_pos trivial] | rw [if_pos (by omega)] | rw [if_neg (by omega)]))
  have h1 : (e1W w).heap[w.heap.size + 1]? = some (.cells #[.int .i64 (-1)] 3 (0, 0)) := (by simp only [e1W, heap_at, World.size_alloc]; repeat (first | rw [if_pos trivial] | rw [if_pos (by omega)] | rw [if_neg (by omega)]))
  have h2 : (e1W w).heap[w.heap.size + 1 + 1]? = some (.cells #[.slice (some ⟨w.heap.size, 0, none⟩) 1 1, .slice (some ⟨w.heap.size + 1, 0, none⟩) 1 1] 34 (0, 0)) := (by simp only [e1W, heap_at, World.size_alloc]; repeat (first | rw [if_pos trivial] | rw [if_pos (by omega)] | rw [if_neg (by omega)]))
  have h4 : (e1W w).heap[w.heap.size + 1 + 1 + 1 + 1]? = some (.cells #[.slice (some ⟨w.heap.size + 1 + 1 + 1, 0, none⟩) 0 0] 34 (0, 0)) := (by simp only [e1W, heap_at, World.size_alloc]; repeat (first | rw [if_pos trivial] | rw [if_pos (by omega)] | rw [if_neg (by omega)]))
  have hb : Below w.heap.size w (e1W w) := by
    unfold e1W
    refine Below.alloc (Below.alloc (Below.alloc (Below.alloc (Below.alloc (Below.refl _ _) ?_ _) ?_ _) ?_ _) ?_ _) ?_ _ <;> simp <;> omega
  generalize e1W w = W at hz h0 h1 h2 h4 hb ⊢
  have n0 : Nums W.heap.size W (some ⟨w.heap.size, 0, none⟩) [1] := fun i hi => by
    match i, hi with
    | 0, _ => exact ⟨_, 0, rfl, by omega, (cell_of_row _ _ _ _ _ _ h0).trans rfl⟩
  have n1 : Nums W.heap.size W (some ⟨w.heap.size + 1, 0, none⟩) [-1] := fun i hi => by
    match i, hi with
    | 0, _ => exact ⟨_, 0, rfl, by omega, (cell_of_row _ _ _ _ _ _ h1).trans rfl⟩
  have n2 : Nums W.heap.size W (some ⟨w.heap.size + 1 + 1 + 1, 0, none⟩) [] := fun i hi => absurd hi (Nat.not_lt_zero i)
  refine ⟨⟨rfl, by decide, fun i hi => ?_, fun j hj => ?_⟩, ⟨rfl, by decide, fun i hi => ?_, fun j hj => ?_⟩, hb⟩
  · match i, hi with
    | 0, _ => exact ⟨_, 0, _, _, rfl, by omega, (cell_of_row _ _ _ _ _ _ h2).trans rfl, n0⟩
    | 1, _ => exact ⟨_, 0, _, _, rfl, by omega, (cell_of_row _ _ _ _ _ _ h2).trans rfl, n1⟩
  · match j, hj with
    | 0, _ => decide
    | 1, _ => decide
  · match i, hi with
    | 0, _ => exact ⟨_, 0, _, _, rfl, by omega, (cell_of_row _ _ _ _ _ _ h4).trans rfl, n2⟩
  · match j, hj with
    | 0, _ => decide
def e2W (w : World) : World := (((w.alloc (.cells #[.int .i64 1] 3)).alloc (.cells #[.slice (some ⟨w.heap.size, 0, none⟩) 1 1] 34)).alloc (.cells #[] 3)).alloc (.cells #[.slice (some ⟨w.heap.size + 1 + 1, 0, none⟩) 0 0] 34)
theorem e2_given (w : World) : GivenC (e2W w) (some ⟨w.heap.size + 1, 0, none⟩) 1 [[1]] ∧ GivenC (e2W w) (some ⟨w.heap.size + 1 + 1 + 1, 0, none⟩) 1 [[]] ∧ Below w.heap.size w (e2W w) := by
  have hz : (e2W w).heap.size = w.heap.size + 4 := by simp [e2W]
  have h0 : (e2W w).heap[w.heap.size]? = some (.cells #[.int .i64 1] 3 (0, 0)) := (by simp only [e2W, heap_at, World.size_alloc]; repeat (first | rw [if_pos trivial] | rw [if_pos (by omega)] | rw [if_neg (by omega)]))
  have h2 : (e2W w).heap[w.heap.size + 1]? = some (.cells #[.slice (some ⟨w.heap.size, 0, none⟩) 1 1] 34 (0, 0)) := (by simp only [e2W, heap_at, World.size_alloc]; repeat (first | rw [if_pos trivial] | rw [if_pos (by omega)] | rw [if_neg (by omega)]))
  have h4 : (e2W w).heap[w.heap.size + 1 + 1 + 1]? = some (.cells #[.slice (some ⟨w.heap.size + 1 + 1, 0, none⟩) 0 0] 34 (0, 0)) := (by simp only [e2W, heap_at, World.size_alloc]; repeat (first | rw [if_pos trivial] | rw [if_pos (by omega)] | rw [if_neg (by omega)]))
  have hb : Below w.heap.size w (e2W w) := by
    unfold e2W
    refine Below.alloc (Below.alloc (Below.alloc (Below.alloc (Below.refl _ _) ?_ _) ?_ _) ?_ _) ?_ _ <;> simp <;> omega
  generalize e2W w = W at hz h0 h2 h4 hb ⊢
  have n0 : Nums W.heap.size W (some ⟨w.heap.size, 0, none⟩) [1] := fun i hi => by
    match i, hi with
    | 0, _ => exact ⟨_, 0, rfl, by omega, (cell_of_row _ _ _ _ _ _ h0).trans rfl⟩
  have n2 : Nums W.heap.size W (some ⟨w.heap.size + 1 + 1, 0, none⟩) [] := fun i hi => absurd hi (Nat.not_lt_zero i)
  refine ⟨⟨rfl, by decide, fun i hi => ?_, fun j hj => ?_⟩, ⟨rfl, by decide, fun i hi => ?_, fun j hj => ?_⟩, hb⟩
  · match i, hi with
    | 0, _ => exact ⟨_, 0, _, _, rfl, by omega, (cell_of_row _ _ _ _ _ _ h2).trans rfl, n0⟩
  · match j, hj with
    | 0, _ => decide
  · match i, hi with
    | 0, _ => exact ⟨_, 0, _, _, rfl, by omega, (cell_of_row _ _ _ _ _ _ h4).trans rfl, n2⟩
  · match j, hj with
    | 0, _ => decide
def e3W (w : World) : World := (w.alloc (.cells #[.int .i64 1] 3)).alloc (.cells #[.slice (some ⟨w.heap.size, 0, none⟩) 1 1] 34)
theorem e3_given (w : World) : GivenC (e3W w) (some ⟨w.heap.size + 1, 0, none⟩) 1 [[1]] ∧ GivenC (e3W w) none 0 [] ∧ Below w.heap.size w (e3W w) := by
  have hz : (e3W w).heap.size = w.heap.size + 2 := by simp [e3W]
  have h0 : (e3W w).heap[w.heap.size]? = some (.cells #[.int .i64 1] 3 (0, 0)) := (by simp only [e3W, heap_at, World.size_alloc]; repeat (first | rw [if_pos trivial] | rw [if_pos (by omega)] | rw [if_neg (by omega)]))
  have h2 : (e3W w).heap[w.heap.size + 1]? = some (.cells #[.slice (some ⟨w.heap.size, 0, none⟩) 1 1] 34 (0, 0)) := (by simp only [e3W, heap_at, World.size_alloc]; repeat (first | rw [if_pos trivial] | rw [if_pos (by omega)] | rw [if_neg (by omega)]))
  have hb : Below w.heap.size w (e3W w) := by
    unfold e3W
    refine Below.alloc (Below.alloc (Below.refl _ _) ?_ _) ?_ _ <;> simp <;> omega
  generalize e3W w = W at hz h0 h2 hb ⊢
  have n0 : Nums W.heap.size W (some ⟨w.heap.size, 0, none⟩) [1] := fun i hi => by
    match i, hi with
    | 0, _ => exact ⟨_, 0, rfl, by omega, (cell_of_row _ _ _ _ _ _ h0).trans rfl⟩
  refine ⟨⟨rfl, by decide, fun i hi => ?_, fun j hj => ?_⟩, ⟨rfl, by decide, fun i hi => absurd hi (Nat.not_lt_zero i), fun j hj => absurd hj (Nat.not_lt_zero j)⟩, hb⟩
  · match i, hi with
    | 0, _ => exact ⟨_, 0, _, _, rfl, by omega, (cell_of_row _ _ _ _ _ _ h2).trans rfl, n0⟩
  · match j, hj with
    | 0, _ => decide
theorem few1 : Few [[1], [-1]] [[]] := ⟨by decide, by decide, by decide, by decide⟩
theorem few2 : Few [[1]] [[]] := ⟨by decide, by decide, by decide, by decide⟩
theorem few3 : Few [[1]] [] := ⟨by decide, by decide, by decide, by decide⟩
theorem up_said7 (hbeg : BeginSaid) : UpSaid7 := fun w hg => by
  obtain ⟨g1, g2, g3⟩ := e1_given w
  have H1 := Lib.hid (rup_any hbeg 1 _ 2 2 [[1], [-1]] _ 1 1 [[]] (e1W w) g1 g2 few1)
  have H2 := Lib.hid (fun W => rup_any hbeg 1 _ 1 1 [[1]] _ 1 1 [[]] (e2W W) (e2_given W).1 (e2_given W).2.1 few2)
  have H3 := Lib.hid (fun W => rup_any hbeg 1 _ 1 1 [[1]] _ 0 0 [] (e3W W) (e3_given W).1 (e3_given W).2.1 few3)
  have HB1 := Lib.hid g3
  have HB2 := Lib.hid (fun W => (e2_given W).2.2)
  have HB3 := Lib.hid (fun W => (e3_given W).2.2)
  have HG := Lib.hid hg
  have q1 := fun W => Tryd.eqNilNil W
  have q2 := fun W => Tryd.eqCode 8 8 W
  clear g1 g2 g3 hbeg hg
  go_enter Tryd.func7, Tryd.ntmps7
  go_wp2_with fail
  refine H1.out.mono ?_
  rintro e w1 ⟨er, x, at', rfl, hr, he, hb1⟩
  obtain ⟨rfl, rfl⟩ := ex1 hr
  obtain rfl := he.1 (by decide)
  have B1 := Lib.hid (HB1.out.trans (hb1.mono HB1.out.size))
  clear hr he hb1 H1 HB1
  go_wp2_with fail
  refine (H2.out w1).mono ?_
  rintro e w2 ⟨er, x, at', rfl, hr, he, hb2⟩
  obtain ⟨rfl, rfl⟩ := ex2 hr
  obtain ⟨g, rfl, hg1, hg2, c1, c2⟩ := he.2 (by decide)
  have B2 := Lib.hid (B1.out.trans (((HB2.out w1).trans (hb2.mono (HB2.out w1).size)).mono B1.out.size))
  have HIS := Lib.hid (sis_any g 0 9 w2 (HG.out.below B2.out HG.out.pos) hg2 c1 c2)
  clear hr he hb2 H2 HB2 c1 c2
  rw [codeV_zero]
  go_wp2_with fail
  refine HIS.out.mono ?_
  rintro e w3 ⟨rfl, hb3⟩
  have B3 := Lib.hid (B2.out.trans (hb3.mono B2.out.size))
  clear hb3 HIS
  go_wp2_with fail
  refine (H3.out w3).mono ?_
  rintro e w4 ⟨er, x, at', rfl, hr, he, hb4⟩
  obtain ⟨rfl, rfl⟩ := ex3 hr
  obtain rfl := he.1 (by decide)
  have B4 := Lib.hid (B3.out.trans (((HB3.out w3).trans (hb4.mono (HB3.out w3).size)).mono B3.out.size))
  clear hr he hb4 H3 HB3
  rw [codeV_ne (by decide)]
  go_wp2_with fail
  go_ret
  exact ⟨rfl, B4.out⟩
/-- light. -/
structure Easy (n : Int) (cs ss : List (List Int)) : Prop where
  few : Few cs ss
  n1 : n ≤ 100 ∨ 8192 < n
theorem easy_of {n : Int} {cs ss : List (List Int)} (h1 : LightIs n cs) (h2 : LightIs n ss) (hm : cs.length ≤ 200) (hm2 : ss.length ≤ 100) : Easy n cs ss := by
  have key : ∀ l : List (List Int), LightIs n l → l.length ≤ 200 → ∀ c, c ∈ l → c.length ≤ 100 := fun l hl hn c hc => by
    obtain ⟨i, hi, rfl⟩ := List.getElem_of_mem hc
    have := hl.2.2 i hi (by omega)
    rwa [List.getD_eq_getElem?_getD, List.getElem?_eq_getElem hi] at this
  exact ⟨⟨hm, hm2, key cs h1 hm, key ss h2 (by omega)⟩, h1.1⟩
def EasyEnd (n : Int) (cs ss : List (List Int)) (w : World) (e : Ending) (w' : World) : Prop := ∃ b, e = .returned (.bool b) ∧ w = w' ∧ (b = true → Easy n cs ss)
set_option maxHeartbeats 1000000 in
theorem easy_any (n : Int) (a : Option Addr) (m cap : Nat) (cs : List (List Int)) (a2 : Option Addr) (m2 cap2 : Nat) (ss : List (List Int)) (w : World) (h1 : GivenC w a m cs) (h2 : GivenC w a2 m2 ss) :
    Calls Tryd.prog 8 #[.int .i64 n, .slice a m cap, .slice a2 m2 cap2] w (EasyEnd n cs ss w) := by
  have L1 := Lib.hid (light_any n a m cap cs w h1.hm h1.hmm h1.hl)
  have L2 := Lib.hid (light_any n a2 m2 cap2 ss w h2.hm h2.hmm h2.hl)
  have hm := h1.hm
  have hm2 := h2.hm
  have hx := h1.hmm
  have hx2 := h2.hmm
  clear h1 h2
  by_cases c1 : 100 < m2
  · go_enter Tryd.func8, Tryd.ntmps8
    go_wp2_with fail
    go_ret
    exact ⟨false, rfl, rfl, fun h => by cases h⟩
  · by_cases c2 : 200 < m
    · go_enter Tryd.func8, Tryd.ntmps8
      go_wp2_with fail
      go_ret
      exact ⟨false, rfl, rfl, fun h => by cases h⟩
    · by_cases c3 : 100 < n ∧ n ≤ 8192
      · obtain ⟨c4, c5⟩ := c3
        go_enter Tryd.func8, Tryd.ntmps8
        go_wp2_with fail
        go_ret
        exact ⟨false, rfl, rfl, fun h => by cases h⟩
      · have HE : Hid (LightIs n cs → LightIs n ss → Easy n cs ss) := fun g1 g2 => easy_of g1 g2 (by omega) (by omega)
        clear hm hm2
        rcases (show n ≤ 100 ∨ (100 < n ∧ 8192 < n) by omega) with c4 | ⟨c4, c5⟩
        all_goals
          clear c3
          go_enter Tryd.func8, Tryd.ntmps8
          go_wp2_with fail
          refine L1.out.mono ?_
          rintro e w1 ⟨b, rfl, rfl, hb1⟩
          cases b with
          | false =>
            clear hb1
            go_wp2_with fail
            go_ret
            exact ⟨false, rfl, rfl, fun h => by cases h⟩
          | true =>
            have HE1 := Lib.hid (HE.out (hb1 rfl))
            clear hb1 HE
            go_wp2_with fail
            refine L2.out.mono ?_
            rintro e w2 ⟨b2, rfl, rfl, hb2⟩
            have HE2 : Hid (b2 = true → Easy n cs ss) := fun h => HE1.out (hb2 h)
            clear hb2 HE1
            go_wp2_with fail
            go_ret
            exact ⟨b2, rfl, rfl, HE2.out⟩
end Go.Proofs.YtlnkgemndojdnaaDoor
