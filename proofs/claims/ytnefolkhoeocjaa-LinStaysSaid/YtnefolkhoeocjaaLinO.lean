/- lin.Make. -/
import Derived.Test.YtnefolkhoeocjaaLinN
namespace Go.Proofs.Ytnefolkhoeocjaa
open Go.RowKit

/-- Make's arguments may be. -/
def argOk (c : Int) (l : List (Int × Int)) : Prop := wi c 1073741824 = true ∧ l.length ≤ 4096 ∧ ∀ i, i < l.length → mayAt l i = true

theorem argOk_bd {c : Int} {l : List (Int × Int)} (h : argOk c l) : Bd 4398046511104 l ∧ ∀ m ∈ l, 0 ≤ m.1 ∧ m.1 < 1048576 := by
  have hm : ∀ m ∈ l, (0 ≤ m.1 ∧ m.1 < 1048576) ∧ -1073741824 ≤ m.2 ∧ m.2 ≤ 1073741824 := fun m hm => by
    obtain ⟨i, hi, rfl⟩ := List.getElem_of_mem hm
    have := h.2.2 i hi
    unfold mayAt mst wi at this
    rw [List.getD_eq_getElem?_getD, List.getElem?_eq_getElem hi] at this
    simpa using this
  exact ⟨fun m h => by have := hm m h; omega, fun m h => (hm m h).1⟩

set_option maxHeartbeats 1600000 in
theorem make_arg (c : Int) (a : Option Addr) (n cap : Nat) (l : List (Int × Int)) (w : World) (hn : l.length = n) (hm : n ≤ 9223372036854775807) (hl : Lies w.heap.size w a l) (h : ¬ argOk c l) :
    Calls Try.prog 14 #[.int .i64 c, .slice a n cap] w (LinErr w.heap.size 1 w) := by
  have hwi := fun w => within_any c 1073741824 w (by omega) (by omega)
  have hb0 : Below w.heap.size w (w.alloc (.cells #[.int .i64 0, .slice none 0 0] 24)) := (Below.refl _ w).alloc (Nat.le_refl _) _
  by_cases hc : wi c 1073741824 = true
  · rw [hc] at hwi
    by_cases h4 : n ≤ 4096
    · have hno : ¬ ∀ i, i < n → mayAt l i = true := fun hh => h ⟨hc, by omega, by rw [hn]; exact hh⟩
      have hall := mayAll_no a n cap l _ _ (Nat.le_refl _) hn hm ((hl.below hb0).mono hb0.size) hno
      have HB0 := Lib.hid hb0
      clear hn hl h hc hno hb0
      go_enter Try.func14, Try.ntmps14
      go_wp2_with (first | (go_at_call 23; refine (hwi _).mono ?_; rintro e w' ⟨rfl, rfl⟩) | (go_at_call 24; refine hall.mono ?_; rintro e w5 ⟨rfl, hb5⟩; obtain ⟨hc5, hf5⟩ := bcell hb5; have hz5 : w.heap.size < w5.heap.size := (by have := hb5.size; simp at this; omega)))
      have H5 : Below w.heap.size w w5 := HB0.out.trans (hb5.mono (by simp))
      have q0 : w5.cell? ⟨w.heap.size, 0, none⟩ = some (.int .i64 0) := by rw [hc5 _ _ (by simp)]; simp
      have q1 : w5.cell? ⟨w.heap.size, 1, none⟩ = some (.slice none 0 0) := by rw [hc5 _ _ (by simp)]; simp
      have hbf := (H5.setCell (p := ⟨w.heap.size, 0, none⟩) (Nat.le_refl _) (.int .i64 0)).setCell (p := ⟨w.heap.size, 1, none⟩) (Nat.le_refl _) (.slice none 0 0)
      obtain ⟨e0, e1⟩ := res_cells w5 w.heap.size (.int .i64 0) (.slice none 0 0) _ _ q0 q1
      refine bodyPost_ret (v := .tuple #[.agg #[.int .i64 0, .slice none 0 0], .iface 30 (.int .i64 1)]) ?_ rfl ⟨rfl, hbf⟩
      clear q0 q1 hc5 hf5
      simp [results, Try.results14, go_sem, e0, e1]
    · clear hn hl h hc
      go_enter Try.func14, Try.ntmps14
      go_wp2_with (go_at_call 23; refine (hwi _).mono ?_; rintro e w' ⟨rfl, rfl⟩)
      refine bodyPost_ret (v := .tuple #[.agg #[.int .i64 0, .slice none 0 0], .iface 30 (.int .i64 1)]) ?_ rfl ⟨rfl, hb0⟩
      simp [results, Try.results14, go_sem]
  · have hc' : wi c 1073741824 = false := by simpa using hc
    rw [hc'] at hwi
    clear hn hl h hc hc'
    go_enter Try.func14, Try.ntmps14
    go_wp2_with (go_at_call 23; refine (hwi _).mono ?_; rintro e w' ⟨rfl, rfl⟩)
    refine bodyPost_ret (v := .tuple #[.agg #[.int .i64 0, .slice none 0 0], .iface 30 (.int .i64 1)]) ?_ rfl ⟨rfl, hb0⟩
    simp [results, Try.results14, go_sem]

set_option maxHeartbeats 1600000 in
theorem make_ok (c : Int) (a : Option Addr) (n cap : Nat) (l R : List (Int × Int)) (w : World) (hn : l.length = n) (hl : Lies w.heap.size w a l) (hnil : a = none → n = 0 ∧ cap = 0) (h : argOk c l) (hR : IsSum l R) (hk : ∀ m ∈ R, wi m.2 1073741824 = true) (h64 : R.length ≤ 64) :
    Calls Try.prog 14 #[.int .i64 c, .slice a n cap] w (LinOk w.heap.size c R w) := by
  have hwi := fun w => within_any c 1073741824 w (by omega) (by omega)
  have hb0 : Below w.heap.size w (w.alloc (.cells #[.int .i64 0, .slice none 0 0] 24)) := (Below.refl _ w).alloc (Nat.le_refl _) _
  have hbdV := argOk_bd h
  obtain ⟨hc, h4, hall0⟩ := h
  rw [hn] at h4 hall0
  rw [hc] at hwi
  have hall := mayAll_yes a n cap l _ _ (Nat.le_refl _) hn (by omega) ((hl.below hb0).mono hb0.size) hall0
  have hcl := fun W (hb : Below w.heap.size w W) => clone_any a n cap l W hn (by omega) ((hl.below hb).mono hb.size) hnil
  have hga := fun a n cap W B hn hrow hB hm => gather_ok c a n cap B l R W hn hrow hB hm hbdV.1 hbdV.2 hR hc hk h64
  have HB0 := Lib.hid hb0
  have HCL := Lib.hid hcl
  have HGA := Lib.hid hga
  have HN := Lib.hid hn
  clear hn hl hc hall0 hb0 hcl hga hbdV hR hk hnil
  go_enter Try.func14, Try.ntmps14
  go_wp2_with (first | (go_at_call 23; refine (hwi _).mono ?_; rintro e w' ⟨rfl, rfl⟩) | (go_at_call 24; refine hall.mono ?_; rintro e w5 ⟨rfl, hb5⟩; obtain ⟨hc5, hf5⟩ := bcell hb5; have hz5 : w.heap.size < w5.heap.size := (by have := hb5.size; simp at this; omega)))
  have H5 : Below w.heap.size w w5 := HB0.out.trans (hb5.mono (by simp))
  refine (HCL.out _ H5).mono ?_
  rintro e w6 ⟨v6, rfl, hrow6, hb6⟩
  obtain ⟨a6, cap6, rfl, _, _⟩ := hrow6.lies
  have hz6 : w.heap.size < w6.heap.size := by have := hb6.size; omega
  have hz65 : w5.heap.size ≤ w6.heap.size := hb6.size
  have hl6 : l.length ≤ 8192 := by rw [HN.out]; omega
  have B6 : Hid (Below w.heap.size w w6) := H5.trans (hb6.mono (by omega))
  have hcon := HGA.out a6 l.length cap6 w6 w5.heap.size rfl hrow6 hz65 hl6
  have q50 : w5.cell? ⟨w.heap.size, 0, none⟩ = some (.int .i64 0) := by rw [hc5 _ _ (by simp)]; simp
  have q51 : w5.cell? ⟨w.heap.size, 1, none⟩ = some (.slice none 0 0) := by rw [hc5 _ _ (by simp)]; simp
  have q5f : ∀ o, w5.frozen? ⟨w.heap.size, o, none⟩ = false := fun o => by rw [hf5 _ _ (by simp)]; simp
  clear hall hc5 hf5 hrow6
  have HB6 := Lib.hid hb6
  clear hb6
  go_wp2_with fail
  refine hcon.mono ?_
  rintro e w7 ⟨v7, rfl, hrow7, hb7⟩
  have H67 : Hid (Below w5.heap.size w5 w7) := HB6.out.trans hb7
  have q0 : w7.cell? ⟨w.heap.size, 0, none⟩ = some (.int .i64 0) := (H67.out.cell (p := ⟨w.heap.size, 0, none⟩) hz5).trans q50
  have q1 : w7.cell? ⟨w.heap.size, 1, none⟩ = some (.slice none 0 0) := (H67.out.cell (p := ⟨w.heap.size, 1, none⟩) hz5).trans q51
  have qf : ∀ o, w7.frozen? ⟨w.heap.size, o, none⟩ = false := fun o => (H67.out.frozen (p := ⟨w.heap.size, o, none⟩) hz5).trans (q5f o)
  have hrowf : Row w.heap.size R v7 ((w7.setCell ⟨w.heap.size, 0, none⟩ (.int .i64 c)).setCell ⟨w.heap.size, 1, none⟩ v7) :=
    Row.mono (ownsRow_setCell_below (ownsRow_setCell_below hrow7 (by simpa using hz5) _) (by simpa using hz5) _) (by omega)
  have hbf := ((B6.out.trans (hb7.mono (by omega))).setCell (p := ⟨w.heap.size, 0, none⟩) (Nat.le_refl _) (.int .i64 c)).setCell (p := ⟨w.heap.size, 1, none⟩) (Nat.le_refl _) v7
  obtain ⟨a7, cap7, rfl, _, _⟩ := hrow7.lies
  obtain ⟨e0, e1⟩ := res_cells w7 w.heap.size (.int .i64 c) (.slice a7 R.length cap7) _ _ q0 q1
  clear q50 q51 q5f hcon hb7 hrow7
  go_wp2_with fail
  refine bodyPost_ret (v := .tuple #[.agg #[.int .i64 c, .slice a7 R.length cap7], .nilIface]) ?_ rfl ⟨_, rfl, hrowf, hbf⟩
  clear q0 q1 qf
  simp [results, Try.results14, go_sem, e0, e1]
set_option maxHeartbeats 1600000 in
theorem make_err (k c : Int) (a : Option Addr) (n cap : Nat) (l : List (Int × Int)) (w : World) (hn : l.length = n) (hl : Lies w.heap.size w a l) (hnil : a = none → n = 0 ∧ cap = 0) (h : argOk c l)
    (hga : ∀ (a : Option Addr) (n cap : Nat) (W : World) (B : Nat), l.length = n → Row B l (.slice a n cap) W → B ≤ W.heap.size → n ≤ 8192 → Calls Try.prog 31 #[.int .i64 c, .slice a n cap] W (LinErr B k W)) :
    Calls Try.prog 14 #[.int .i64 c, .slice a n cap] w (LinErr w.heap.size k w) := by
  have hwi := fun w => within_any c 1073741824 w (by omega) (by omega)
  have hb0 : Below w.heap.size w (w.alloc (.cells #[.int .i64 0, .slice none 0 0] 24)) := (Below.refl _ w).alloc (Nat.le_refl _) _
  obtain ⟨hc, h4, hall0⟩ := h
  rw [hn] at h4 hall0
  rw [hc] at hwi
  have hall := mayAll_yes a n cap l _ _ (Nat.le_refl _) hn (by omega) ((hl.below hb0).mono hb0.size) hall0
  have hcl := fun W (hb : Below w.heap.size w W) => clone_any a n cap l W hn (by omega) ((hl.below hb).mono hb.size) hnil
  have HB0 := Lib.hid hb0
  have HCL := Lib.hid hcl
  have HGA := Lib.hid hga
  have HN := Lib.hid hn
  clear hn hl hc hall0 hb0 hcl hga hnil
  go_enter Try.func14, Try.ntmps14
  go_wp2_with (first | (go_at_call 23; refine (hwi _).mono ?_; rintro e w' ⟨rfl, rfl⟩) | (go_at_call 24; refine hall.mono ?_; rintro e w5 ⟨rfl, hb5⟩; obtain ⟨hc5, hf5⟩ := bcell hb5; have hz5 : w.heap.size < w5.heap.size := (by have := hb5.size; simp at this; omega)))
  have H5 : Below w.heap.size w w5 := HB0.out.trans (hb5.mono (by simp))
  refine (HCL.out _ H5).mono ?_
  rintro e w6 ⟨v6, rfl, hrow6, hb6⟩
  obtain ⟨a6, cap6, rfl, _, _⟩ := hrow6.lies
  have hz6 : w.heap.size < w6.heap.size := by have := hb6.size; omega
  have hz65 : w5.heap.size ≤ w6.heap.size := hb6.size
  have hl6 : l.length ≤ 8192 := by rw [HN.out]; omega
  have B6 : Hid (Below w.heap.size w w6) := H5.trans (hb6.mono (by omega))
  have hcon := HGA.out a6 l.length cap6 w6 w5.heap.size rfl hrow6 hz65 hl6
  have q50 : w5.cell? ⟨w.heap.size, 0, none⟩ = some (.int .i64 0) := by rw [hc5 _ _ (by simp)]; simp
  have q51 : w5.cell? ⟨w.heap.size, 1, none⟩ = some (.slice none 0 0) := by rw [hc5 _ _ (by simp)]; simp
  have q5f : ∀ o, w5.frozen? ⟨w.heap.size, o, none⟩ = false := fun o => by rw [hf5 _ _ (by simp)]; simp
  clear hall hc5 hf5 hrow6
  have HB6 := Lib.hid hb6
  clear hb6
  go_wp2_with fail
  refine hcon.mono ?_
  rintro e w7 ⟨rfl, hb7⟩
  have H67 : Hid (Below w5.heap.size w5 w7) := HB6.out.trans hb7
  have q0 : w7.cell? ⟨w.heap.size, 0, none⟩ = some (.int .i64 0) := (H67.out.cell (p := ⟨w.heap.size, 0, none⟩) hz5).trans q50
  have q1 : w7.cell? ⟨w.heap.size, 1, none⟩ = some (.slice none 0 0) := (H67.out.cell (p := ⟨w.heap.size, 1, none⟩) hz5).trans q51
  have qf : ∀ o, w7.frozen? ⟨w.heap.size, o, none⟩ = false := fun o => (H67.out.frozen (p := ⟨w.heap.size, o, none⟩) hz5).trans (q5f o)
  have hbf := ((B6.out.trans (hb7.mono (by omega))).setCell (p := ⟨w.heap.size, 0, none⟩) (Nat.le_refl _) (.int .i64 0)).setCell (p := ⟨w.heap.size, 1, none⟩) (Nat.le_refl _) (.slice none 0 0)
  obtain ⟨e0, e1⟩ := res_cells w7 w.heap.size (.int .i64 0) (.slice none 0 0) _ _ q0 q1
  clear q50 q51 q5f hcon hb7
  go_wp2_with fail
  refine bodyPost_ret (v := .tuple #[.agg #[.int .i64 0, .slice none 0 0], .iface 30 (.int .i64 k)]) ?_ rfl ⟨rfl, hbf⟩
  clear q0 q1 qf
  simp [results, Try.results14, go_sem, e0, e1]
end Go.Proofs.Ytnefolkhoeocjaa
