/- slices.rotateCmpFunc. -/
import Derived.Test.YteiomafciignkaaHepW
set_option linter.unusedVariables false
set_option linter.unusedSimpArgs false
namespace Go.Proofs.Yteiomafciignkaa
set_option maxRecDepth 100000
open Go.RowKit

theorem wrap_sub (p q : Nat) (h1 : p < 1000) (h2 : q < 1000) : IntKind.i64.wrap ((p : Int) - (q : Int)) = (p : Int) - (q : Int) := IntWalk.i64_in _ (by omega)
theorem wrap_addsub (p q r : Nat) (h1 : p < 1000) (h2 : q < 1000) (h3 : r < 1000) : IntKind.i64.wrap ((p : Int) + (q : Int) - (r : Int)) = (p : Int) + (q : Int) - (r : Int) := IntWalk.i64_in _ (by omega)
set_option maxHeartbeats 8000000 in
theorem rotate_any (B g n cap : Nat) (xs : List HC) (a m b : Nat) (w : World) (h : RowAt B g n cap xs w) (ham : a < m) (hmb : m < b) (hbn : b ≤ n) (hn : n ≤ 200) :
    Calls Try.prog 44 #[.slice (some ⟨g, 0, none⟩) n cap, .int .i64 a, .int .i64 m, .int .i64 b, .func (.func 30) #[] #[]] w (MovEnd B g n cap xs (rotI a m b) a b w) := by
  have HH := Lib.hid h
  clear h
  have hm1 : m < 1000 := by omega
  have ha1 : a < 1000 := by omega
  have hb1 : b < 1000 := by omega
  have HJ := Lib.hid (fun zs p q r W h h1 h2 h3 => srange_any B g n cap zs p q r W h h1 h2 h3)
  go_enter Try.func44, Try.ntmps44
  have hws := wrap_sub
  have hwa := wrap_add
  have hwx := wrap_addsub
  have HF : Hid (a < m ∧ m < b ∧ b ≤ n ∧ n ≤ 200) := ⟨ham, hmb, hbn, hn⟩
  clear ham hmb hbn hn
  go_wp2_with fail
  go_loopw [10, 11] (fun vi vj wr => ∃ (i j : Nat) (zs : List HC), vi = .int .i64 i ∧ vj = .int .i64 j ∧ i < 1000 ∧ j < 1000 ∧ Hid (0 < i ∧ 0 < j ∧ a ≤ m - i ∧ i ≤ m ∧ m + j ≤ b) ∧ Hid (RowAt B g n cap zs wr ∧ Seg xs zs a b ∧ (∀ k, at' zs (rotI (m - i) m (m + j) k) = at' xs (rotI a m b k)) ∧ Below B w wr)) (fun vi vj _ => (intOf vi).toNat + (intOf vj).toNat)
  case atStart =>
    clear hws hwa hwx
    have hf := HF.out
    refine ⟨m - a, b - m, xs, ?_, ?_, by omega, by omega, ⟨by omega, by omega, by omega, by omega, by omega⟩, HH.out, Seg.refl _ _ _, fun k => ?_, Below.refl _ _⟩
    · rw [show ((m - a : Nat) : Int) = (m : Int) - (a : Int) by omega]
    · rw [show ((b - m : Nat) : Int) = (b : Int) - (m : Int) by omega]
    · rw [show m - (m - a) = a by omega, show m + (b - m) = b by omega]
  case round =>
    obtain ⟨i, j, zs, rfl, rfl, hi1, hj1, hij, hrel⟩ := hrel
    by_cases heq : i = j
    · subst heq
      have HC : Hid (Calls Try.prog 45 #[.slice (some ⟨g, 0, none⟩) n cap, .int .i64 ((m : Int) - (i : Int)), .int .i64 m, .int .i64 i, .func (.func 30) #[] #[]] wr (MovEnd B g n cap zs (swI (m - i) m i) (m - i) (m + i) wr)) := by
        have h1 := hij.out
        have h2 := HF.out
        have h3 := HJ.out zs (m - i) m i wr hrel.out.1 (by omega) (by omega) h2.2.2.2
        rw [show ((m - i : Nat) : Int) = (m : Int) - (i : Int) by omega] at h3
        exact h3
      have HFIN : Hid (∀ w', MovEnd B g n cap zs (swI (m - i) m i) (m - i) (m + i) wr (.returned (.tuple #[])) w' → MovEnd B g n cap xs (rotI a m b) a b w (.returned (.tuple #[])) w') := fun w' => by
        rintro ⟨_, ys, r1, r2, r3, r4⟩
        obtain ⟨t1, t2, t3, t4⟩ := hrel.out
        have h1 := hij.out
        exact ⟨rfl, ys, r1, t2.trans (r2.mono (by omega) (by omega)), fun t => by rw [r3 t, rot_same h1.2.2.2.1, t3 t], t4.trans r4⟩
      clear hrel HH HJ
      go_wp2_with fail
      refine HC.out.mono ?_
      rintro e w5 ⟨rfl, h5⟩
      have H5 := Lib.hid (HFIN.out w5 ⟨rfl, h5⟩)
      clear h5 HC HFIN
      go_wp2_with fail
      go_end0
      exact H5.out
    · have heqi : ¬ (i : Int) = (j : Int) := by omega
      by_cases hgt : j < i
      · have hgti : (j : Int) < (i : Int) := by omega
        have HC : Hid (Calls Try.prog 45 #[.slice (some ⟨g, 0, none⟩) n cap, .int .i64 ((m : Int) - (i : Int)), .int .i64 m, .int .i64 j, .func (.func 30) #[] #[]] wr (MovEnd B g n cap zs (swI (m - i) m j) (m - i) (m + j) wr)) := by
          have h1 := hij.out
          have h2 := HF.out
          have h3 := HJ.out zs (m - i) m j wr hrel.out.1 (by omega) (by omega) h2.2.2.2
          rw [show ((m - i : Nat) : Int) = (m : Int) - (i : Int) by omega] at h3
          exact h3
        have HFIN : Hid (∀ w', MovEnd B g n cap zs (swI (m - i) m j) (m - i) (m + j) wr (.returned (.tuple #[])) w' → ∃ ys, Hid (0 < i - j ∧ 0 < j ∧ a ≤ m - (i - j) ∧ i - j ≤ m ∧ m + j ≤ b) ∧ Hid (RowAt B g n cap ys w' ∧ Seg xs ys a b ∧ (∀ k, at' ys (rotI (m - (i - j)) m (m + j) k) = at' xs (rotI a m b k)) ∧ Below B w w')) := fun w' => by
          rintro ⟨_, ys, r1, r2, r3, r4⟩
          obtain ⟨t1, t2, t3, t4⟩ := hrel.out
          have h1 := hij.out
          exact ⟨ys, ⟨by omega, by omega, by omega, by omega, by omega⟩, r1, t2.trans (r2.mono (by omega) (by omega)), fun t => by rw [r3 _, rot_big (by omega) h1.2.2.2.1 hgt h1.2.1, t3 t], t4.trans r4⟩
        clear hrel HH HJ
        go_wp2_with fail
        refine HC.out.mono ?_
        rintro e w5 ⟨rfl, h5⟩
        obtain ⟨ys, H5, H6⟩ := HFIN.out w5 ⟨rfl, h5⟩
        clear h5 HC HFIN
        have hjp : 0 < j := H5.out.2.1
        go_wp2_with fail
        clear hws hwa hwx
        go_roundw
        case rel => exact ⟨i - j, j, ys, by rw [show ((i - j : Nat) : Int) = (i : Int) - (j : Int) by omega], rfl, by omega, hj1, H5, H6⟩
        case measure => simp [intOf]; omega
      · have hgti : ¬ (j : Int) < (i : Int) := by omega
        have hlt : i < j := by omega
        have HC : Hid (Calls Try.prog 45 #[.slice (some ⟨g, 0, none⟩) n cap, .int .i64 ((m : Int) - (i : Int)), .int .i64 ((m : Int) + (j : Int) - (i : Int)), .int .i64 i, .func (.func 30) #[] #[]] wr (MovEnd B g n cap zs (swI (m - i) (m + j - i) i) (m - i) (m + j - i + i) wr)) := by
          have h1 := hij.out
          have h2 := HF.out
          have h3 := HJ.out zs (m - i) (m + j - i) i wr hrel.out.1 (by omega) (by omega) h2.2.2.2
          rw [show ((m - i : Nat) : Int) = (m : Int) - (i : Int) by omega, show ((m + j - i : Nat) : Int) = (m : Int) + (j : Int) - (i : Int) by omega] at h3
          exact h3
        have HFIN : Hid (∀ w', MovEnd B g n cap zs (swI (m - i) (m + j - i) i) (m - i) (m + j - i + i) wr (.returned (.tuple #[])) w' → ∃ ys, Hid (0 < i ∧ 0 < j - i ∧ a ≤ m - i ∧ i ≤ m ∧ m + (j - i) ≤ b) ∧ Hid (RowAt B g n cap ys w' ∧ Seg xs ys a b ∧ (∀ k, at' ys (rotI (m - i) m (m + (j - i)) k) = at' xs (rotI a m b k)) ∧ Below B w w')) := fun w' => by
          rintro ⟨_, ys, r1, r2, r3, r4⟩
          obtain ⟨t1, t2, t3, t4⟩ := hrel.out
          have h1 := hij.out
          exact ⟨ys, ⟨by omega, by omega, by omega, by omega, by omega⟩, r1, t2.trans (r2.mono (by omega) (by omega)), fun t => by rw [r3 _, rot_small (by omega) h1.2.2.2.1 hlt h1.1, t3 t], t4.trans r4⟩
        clear hrel HH HJ
        go_wp2_with fail
        refine HC.out.mono ?_
        rintro e w5 ⟨rfl, h5⟩
        obtain ⟨ys, H5, H6⟩ := HFIN.out w5 ⟨rfl, h5⟩
        clear h5 HC HFIN
        have hip : 0 < i := H5.out.1
        go_wp2_with fail
        clear hws hwa hwx
        go_roundw
        case rel => exact ⟨i, j - i, ys, rfl, by rw [show ((j - i : Nat) : Int) = (j : Int) - (i : Int) by omega], hi1, by omega, H5, H6⟩
        case measure => simp [intOf]; omega
end Go.Proofs.Yteiomafciignkaa
