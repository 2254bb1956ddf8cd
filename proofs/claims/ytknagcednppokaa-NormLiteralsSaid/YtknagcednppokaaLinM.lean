/- The sort of a list of terms that the call itself made. -/
import Derived.Test.YtknagcednppokaaShelf
import Derived.Test.YtknagcednppokaaLinH
import Derived.Lib.AppendIntMem
import Derived.Shelf.SlSortCmp.NoneTotal
namespace Go.Proofs.Ytknagcednppokaa
open Go.Shelf Go.RowKit Go.Lib Go.Sort

def encM (x : Int × Int) : List Value := [.int .i64 x.1, .int .i64 x.2]
theorem encM_flat (l : List (Int × Int)) : (flatK encM 2 l.toArray).toList = flat l := by
  apply List.ext_getElem?
  intro t
  by_cases ht : t < l.length * 2
  · have h1 : (flatK encM 2 l.toArray)[t]! = (encM l.toArray[t / 2]!)[t % 2]! := get_flatK _ _ _ _ (by simpa using ht)
    have h2 : (flatK encM 2 l.toArray).toList[t]? = some ((flatK encM 2 l.toArray)[t]!) := by
      rw [Array.getElem?_toList, getElem!_pos _ t (by simpa using ht), Array.getElem?_eq_getElem (by simpa using ht)]
    rw [h2, h1]
    have hg := flat_get l (t / 2) (by omega)
    have hx : l.toArray[t / 2]! = l.getD (t / 2) (0, 0) := by
      rw [getElem!_pos _ (t / 2) (by simp; omega)]
      simp [List.getD_eq_getElem?_getD, show t / 2 < l.length by omega]
    rw [hx]
    rcases Nat.mod_two_eq_zero_or_one t with hm | hm
    · rw [hm]; have e : t / 2 * 2 = t := by omega
      rw [e] at hg; rw [hg.1]; rfl
    · rw [hm]; have e : t / 2 * 2 + 1 = t := by omega
      rw [e] at hg; rw [hg.2]; rfl
  · rw [List.getElem?_eq_none (by simp; omega), List.getElem?_eq_none (by rw [flat_len]; omega)]

/-- cmp.Compare of two ints. -/
theorem isNaN_any (x : Int) (w : World) : Calls Try.prog 77 #[.int .i64 x] w fun e w' => e = .returned (.bool false) ∧ w = w' := by
  go_enter Try.func77, Try.ntmps77
  go_wp2
  go_ret
  exact ⟨ret_bool (by simp), rfl⟩
theorem cmp_any (x y : Int) (w : World) : Calls Try.prog 70 #[.int .i64 x, .int .i64 y] w fun e w' => e = .returned (.int .i64 (Lib.compareInt x y)) ∧ w = w' := by
  have hx := fun W => isNaN_any x W
  have hy := fun W => isNaN_any y W
  by_cases h1 : x < y
  · have hr : Lib.compareInt x y = -1 := by unfold Lib.compareInt; simp [h1]
    rw [hr]
    clear hr
    go_enter Try.func70, Try.ntmps70
    go_wp2_with fail
    refine (hx _).mono ?_
    rintro e w' ⟨rfl, rfl⟩
    go_wp2_with fail
    refine (hy _).mono ?_
    rintro e w' ⟨rfl, rfl⟩
    go_wp2_with fail
    go_ret
    exact ⟨rfl, rfl⟩
  · by_cases h2 : y < x
    · have hr : Lib.compareInt x y = 1 := by unfold Lib.compareInt; simp [h1, h2]
      rw [hr]
      clear hr
      go_enter Try.func70, Try.ntmps70
      go_wp2_with fail
      refine (hx _).mono ?_
      rintro e w' ⟨rfl, rfl⟩
      go_wp2_with fail
      refine (hy _).mono ?_
      rintro e w' ⟨rfl, rfl⟩
      go_wp2_with fail
      go_ret
      exact ⟨rfl, rfl⟩
    · have hr : Lib.compareInt x y = 0 := by unfold Lib.compareInt; simp [h1, h2]
      rw [hr]
      clear hr
      go_enter Try.func70, Try.ntmps70
      go_wp2_with fail
      refine (hx _).mono ?_
      rintro e w' ⟨rfl, rfl⟩
      go_wp2_with fail
      refine (hy _).mono ?_
      rintro e w' ⟨rfl, rfl⟩
      go_wp2_with fail
      go_ret
      exact ⟨rfl, rfl⟩

set_option maxHeartbeats 1000000 in
theorem gatherLit_any (x y : Int × Int) (W : World) : Calls Try.prog 69 #[.agg #[.int .i64 x.1, .int .i64 x.2], .agg #[.int .i64 y.1, .int .i64 y.2]] W fun e w' => e = .returned (.int .i64 (Lib.compareInt x.1 y.1)) ∧ ∃ q os', w' = grow (W.drewN q) os' := by
  have hcon := fun W' => cmp_any x.1 y.1 W'
  generalize Lib.compareInt x.1 y.1 = r at hcon ⊢
  go_enter Try.func69, Try.ntmps69
  go_wp2_with (go_at_call 70; refine (hcon _).mono ?_; rintro e w' ⟨rfl, rfl⟩)
  go_ret
  exact ⟨rfl, 0, _, by rw [alloc_eq_grow, alloc_eq_grow, grow_grow]; rfl⟩

theorem cmpLaysM (blk off size : Nat) (w : World) : CmpLays Try.prog 69 #[] encM 2 (fun x y => Lib.compareInt x.1 y.1) blk off size w :=
  fun _ _ _ _ x y => gatherLit_any x y _

theorem ltLo (x y : Int × Int) : ltOf (fun x y : Int × Int => Lib.compareInt x.1 y.1) x y = decide (x.1 < y.1) := by
  unfold ltOf Lib.compareInt
  by_cases h1 : x.1 < y.1
  · simp [h1]
  · by_cases h2 : y.1 < x.1 <;> simp [h1, h2]
theorem swoLo : SWO (ltOf fun x y : Int × Int => Lib.compareInt x.1 y.1) where
  irrefl x := by rw [ltLo]; simp
  trans x y z h1 h2 := by rw [ltLo] at *; simp at *; omega
  ntrans x y z h1 h2 := by rw [ltLo] at *; simp at *; omega

theorem Try.enters39 : ∀ args w, (callFunc 69 args).run Try.prog w = .ok (.enter 69 args) w := fun _ _ => by kernel_rfl

/-- What a sort leaves: the list lies in its place, sorted. -/
def Sorted (B : Nat) (a : Option Addr) (l : List (Int × Int)) (w w' : World) : Prop :=
  ∃ l' : List (Int × Int), l'.Perm l ∧ (∀ i j, i < j → j < l'.length → (l'.getD i (0, 0)).1 ≤ (l'.getD j (0, 0)).1) ∧ Lies w'.heap.size w' a l' ∧ RowKit.Below B w w' ∧ w.heap.size ≤ w'.heap.size ∧ ∀ k, k < w.heap.size → (∀ b, a = some b → b.block ≠ k) → w'.heap[k]? = w.heap[k]?

set_option maxHeartbeats 1000000 in
theorem sort_any (g cap B : Nat) (l : List (Int × Int)) (w : World) (h : Row B l (.slice (some ⟨g, 0, none⟩) l.length cap) w) (hm : l.length ≤ 8192) :
    Calls Try.prog 68 #[.slice (some ⟨g, 0, none⟩) l.length cap, .func (.func 69) #[] #[]] w fun e w' => e = .returned (.tuple #[]) ∧ Sorted B (some ⟨g, 0, none⟩) l w w' := by
  have hlt := World.ownsRow.lt h g rfl
  have hH : HoldsK encM 2 w g 0 l.toArray := by
    intro j hj
    have hj' : j < l.length * 2 := by simpa using hj
    have hc := World.ownsRow.cellAt h j hj'
    have hf := World.ownsRow.frozenAt h j
    rw [← encM_flat, Array.getElem?_toList, Array.getElem?_eq_getElem hj] at hc
    rw [Nat.zero_add]
    exact ⟨by rw [hc, getElem!_pos _ j hj]; rfl, hf⟩
  have hcon := AnyQ.slices_SortFunc Try.sortMono 2 Try.isAgg51 Try.sizeOf51 encM (fun _ => rfl) (fun x v hv => by simp [encM] at hv; rcases hv with rfl | rfl <;> rfl) (fun x y => Lib.compareInt x.1 y.1) swoLo 69 #[] g 0 cap l.toArray w Try.enters39 (cmpLaysM g 0 l.toArray.size w) hH hlt.2 (by simp; omega)
  refine hcon.mono ?_
  rintro e w' ⟨he, d', n, os, hp, hs, hw⟩
  have hkeep : ∀ k, k < w.heap.size → g ≠ k → w'.heap[k]? = w.heap[k]? := fun k hkw hne => by
    rw [hw]
    simp [sortWorldK, putRowK, putRow, mapBlock, ahead, grow, Array.getElem?_append, hkw, Array.getElem_modify, hne]
  have hsize : w.heap.size ≤ w'.heap.size := by rw [hw]; simp [sortWorldK, putRowK, ahead]
  refine ⟨he, d'.toList, ?_, ?_, ?_, ⟨by rw [hw]; rfl, by rw [hw]; rfl, by rw [hw]; rfl, hsize, fun k hk => hkeep k (by have := hlt.1; have := hlt.2; omega) (by have := hlt.1; omega)⟩, hsize, fun k hk h => hkeep k hk (h _ rfl)⟩
  · have := hp.2.2
    rw [Array.extract_eq_self_of_le (by rw [hp.1]; exact Nat.le_refl _), Array.extract_eq_self_of_le (Nat.le_refl _)] at this
    simpa using this
  · intro i j hij hj
    have hj' : j < l.toArray.size := by rw [← hp.1]; simpa using hj
    have := hs i j (Nat.zero_le _) hij hj'
    rw [ltLo] at this
    have hi2 : i < d'.size := by rw [hp.1]; omega
    have hj2 : j < d'.size := by rw [hp.1]; exact hj'
    rw [getElem!_pos d' i hi2, getElem!_pos d' j hj2] at this
    simp only [List.getD_eq_getElem?_getD]
    rw [List.getElem?_eq_getElem (by simpa using hi2), List.getElem?_eq_getElem (by simpa using hj2)]
    simpa using this
  · have hH2 : HoldsK encM 2 w' g 0 d' := by
      rw [hw]
      refine holdsK_grow _ _ _ _ _ _ _ ?_ ?_
      · simpa [putRowK, ahead] using hlt.2
      · exact holdsK_putRowK _ _ _ _ _ _ _ (holdsK_ahead _ _ _ _ _ _ _ hH) hp.1
    have hsz : g < w'.heap.size := by rw [hw]; simp [sortWorldK, putRowK, ahead]; omega
    intro i hi
    have hi' : i < d'.size := by simpa using hi
    have h0 := (hH2.cell hi' (c := 0) (by omega)).1
    have h1 := (hH2.cell hi' (c := 1) (by omega)).1
    have hx : d'[i]! = d'.toList.getD i (0, 0) := by
      rw [getElem!_pos d' i hi', List.getD_eq_getElem?_getD, List.getElem?_eq_getElem (by simpa using hi')]; simp
    rw [hx] at h0 h1
    exact ⟨g, 0, rfl, hsz, h0, h1⟩

/-- .. of no element. -/
theorem sort_none (a : Option Addr) (cap : Nat) (fv : Value) (w : World) :
    Calls Try.prog 68 #[.slice a 0 cap, fv] w fun e w' => e = .returned (.tuple #[]) ∧ w' = w :=
  AnyF.slices_SortFunc_none Try.sortMono a cap fv w

/-- The sort of whatever list the call itself made. -/
theorem sort_row (a : Option Addr) (n cap B : Nat) (l : List (Int × Int)) (w : World) (hn : l.length = n) (h : Row B l (.slice a n cap) w) (hm : n ≤ 8192) :
    Calls Try.prog 68 #[.slice a n cap, .func (.func 69) #[] #[]] w fun e w' => e = .returned (.tuple #[]) ∧ Sorted B a l w w' := by
  subst hn
  by_cases h0 : l.length = 0
  · have hl := List.eq_nil_of_length_eq_zero h0
    subst hl
    exact (sort_none a cap _ w).mono fun _ _ ⟨he, hw⟩ => ⟨he, [], List.Perm.refl _, fun i j _ hj => absurd hj (Nat.not_lt_zero j), fun i hi => absurd hi (Nat.not_lt_zero i), by rw [hw]; exact Below.refl _ _, by rw [hw]; exact Nat.le_refl _, fun k _ _ => by rw [hw]⟩
  · obtain ⟨g, cap', hv⟩ := Joins.ownsRow_form h (by omega)
    injection hv with h1 h2 h3
    subst h1
    exact sort_any g cap B l w h hm
end Go.Proofs.Ytknagcednppokaa
