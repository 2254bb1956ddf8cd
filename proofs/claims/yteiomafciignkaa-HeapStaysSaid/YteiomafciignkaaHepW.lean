/- slices.swapRangeCmpFunc, rotateCmpFunc. -/
import Derived.Test.YteiomafciignkaaHepU
set_option linter.unusedVariables false
set_option linter.unusedSimpArgs false
namespace Go.Proofs.Yteiomafciignkaa
set_option maxRecDepth 100000
open Go.RowKit

def swI (a b n t : Nat) : Nat := if a ≤ t ∧ t < a + n then t - a + b else if b ≤ t ∧ t < b + n then t - b + a else t
def rotI (a m b k : Nat) : Nat := if k < a ∨ b ≤ k then k else if k < a + (b - m) then k + (m - a) else k - (b - m)
theorem rot_big {m k i j : Nat} (hm : m ≤ 1000) (hi : i ≤ m) (h : j < i) (hj : 0 < j) : swI (m - i) m j (rotI (m - (i - j)) m (m + j) k) = rotI (m - i) m (m + j) k := by
  unfold swI rotI
  repeat' split
  all_goals omega
theorem rot_small {m k i j : Nat} (hm : m ≤ 1000) (hi : i ≤ m) (h : i < j) (hj : 0 < i) : swI (m - i) (m + j - i) i (rotI (m - i) m (m + (j - i)) k) = rotI (m - i) m (m + j) k := by
  unfold swI rotI
  repeat' split
  all_goals omega
theorem rot_same {m k i : Nat} (hi : i ≤ m) : swI (m - i) m i k = rotI (m - i) m (m + i) k := by
  unfold swI rotI
  repeat' split
  all_goals omega
def Mov (xs ys : List HC) (f : Nat → Nat) : Prop := ∀ t, at' ys t = at' xs (f t)
theorem Mov.refl (xs : List HC) : Mov xs xs (fun t => t) := fun t => rfl
theorem swI_zero (a b t : Nat) : swI a b 0 t = t := by
  unfold swI
  rw [if_neg (by omega), if_neg (by omega)]
theorem Mov.step {xs zs : List HC} {a b i n : Nat} (h : Mov xs zs (swI a b i)) (hin : i < n) (hab : a + n ≤ b) (hl : b + n ≤ zs.length) : Mov xs (swp zs (a + i) (b + i)) (swI a b (i + 1)) := fun t => by
  rw [swp_at (by omega) (by omega)]
  split
  · rename_i e; subst e
    rw [h (a + i)]
    congr 1
    unfold swI
    repeat' split
    all_goals omega
  · split
    · rename_i e; subst e
      rw [h (b + i)]
      congr 1
      unfold swI
      repeat' split
      all_goals omega
    · rw [h t]
      congr 1
      unfold swI
      repeat' split
      all_goals omega
def MovEnd (B g n cap : Nat) (xs : List HC) (f : Nat → Nat) (a b : Nat) (W : World) (e : Ending) (w' : World) : Prop := e = .returned (.tuple #[]) ∧ ∃ ys, RowAt B g n cap ys w' ∧ Seg xs ys a b ∧ Mov xs ys f ∧ Below B W w'
theorem wrap_add (p q : Nat) (h1 : p < 1000) (h2 : q < 1000) : IntKind.i64.wrap ((p : Int) + (q : Int)) = (p : Int) + (q : Int) := IntWalk.i64_in _ (by omega)
set_option maxHeartbeats 8000000 in
theorem srange_any (B g n cap : Nat) (xs : List HC) (a b m : Nat) (w : World) (h : RowAt B g n cap xs w) (hab : a + m ≤ b) (hbn : b + m ≤ n) (hn : n ≤ 200) :
    Calls Try.prog 45 #[.slice (some ⟨g, 0, none⟩) n cap, .int .i64 a, .int .i64 b, .int .i64 m, .func (.func 30) #[] #[]] w (MovEnd B g n cap xs (swI a b m) a (b + m) w) := by
  have HH := Lib.hid h
  clear h
  go_enter Try.func45, Try.ntmps45
  go_wp2_with fail
  go_loopw [10] (fun i wr => ∃ (k : Nat) (zs : List HC), i = .int .i64 k ∧ k ≤ m ∧ Hid (RowAt B g n cap zs wr ∧ Seg xs zs a (b + m) ∧ Mov xs zs (swI a b k) ∧ Below B w wr)) (fun i _ => m - (intOf i).toNat)
  case atStart => exact ⟨0, xs, rfl, Nat.zero_le _, HH.out, Seg.refl _ _ _, fun t => by rw [swI_zero], Below.refl _ _⟩
  case round =>
    obtain ⟨k, zs, rfl, hkm, hrel⟩ := hrel
    by_cases hlt : k < m
    · have hlti : (k : Int) < (m : Int) := by omega
      have hak : a + k < n := by omega
      have hbk : b + k < n := by omega
      have haki : (a : Int) + (k : Int) < (n : Int) := by omega
      have hbki : (b : Int) + (k : Int) < (n : Int) := by omega
      have ha1 : ¬ (a : Int) + (k : Int) < 0 := by omega
      have hb1 : ¬ (b : Int) + (k : Int) < 0 := by omega
      have hk1 : a < 1000 := by omega
      have hk2 : b < 1000 := by omega
      have hk3 : k < 1000 := by omega
      have HFIN : Hid (RowAt B g n cap (swp zs (a + k) (b + k)) (put3 (put3 wr g (a + k) (at' zs (b + k))) g (b + k) (at' zs (a + k))) ∧ Seg xs (swp zs (a + k) (b + k)) a (b + m) ∧ Mov xs (swp zs (a + k) (b + k)) (swI a b (k + 1)) ∧ Below B w (put3 (put3 wr g (a + k) (at' zs (b + k))) g (b + k) (at' zs (a + k)))) := by
        obtain ⟨h1, h2, h3, h4⟩ := hrel.out
        obtain ⟨s1, s2⟩ := h1.swap hak hbk
        exact ⟨s1, h2.swap (by rw [h1.len]; omega) (by rw [h1.len]; omega) ⟨by omega, by omega⟩ ⟨by omega, by omega⟩, h3.step hlt hab (by rw [h1.len]; omega), h4.trans s2⟩
      have HFIN : Hid (RowAt B g n cap (swp zs (a + k) (b + k)) (put3 (put3 wr g (a + k) (at' zs (b + k))) g (b + k) (at' zs (a + k))).drew ∧ Seg xs (swp zs (a + k) (b + k)) a (b + m) ∧ Mov xs (swp zs (a + k) (b + k)) (swI a b (k + 1)) ∧ Below B w (put3 (put3 wr g (a + k) (at' zs (b + k))) g (b + k) (at' zs (a + k))).drew) := by
        obtain ⟨h1, h2, h3, h4⟩ := HFIN.out
        exact ⟨h1.below (Below.refl _ _).drew, h2, h3, h4.drew⟩
      obtain ⟨c1, c2, c3⟩ := hrel.out.1.cells (i := a + k) hak
      obtain ⟨d1, d2, d3⟩ := hrel.out.1.cells (i := b + k) hbk
      have f1 := hrel.out.1.frozen
      have hpq : a + k < b + k := by omega
      have n1 : ¬ (a + k) * 3 = (b + k) * 3 := by omega
      have n2 : ¬ (a + k) * 3 + 1 = (b + k) * 3 := by omega
      have n3 : ¬ (a + k) * 3 + 2 = (b + k) * 3 := by omega
      clear hrel HH hab hbn hn
      generalize swp zs (a + k) (b + k) = zs' at HFIN
      generalize at' zs (a + k) = x at c1 c2 c3 HFIN
      generalize at' zs (b + k) = y at d1 d2 d3 HFIN
      obtain ⟨xa, xf, xv⟩ := x
      obtain ⟨ya, yf, yv⟩ := y
      simp only at c1 c2 c3 d1 d2 d3
      have hkw := wrap_add
      go_wp2_with fail
      go_region
      all_goals
        clear f1 c1 c2 c3 d1 d2 d3 hkw
        go_wp2_with fail
        go_roundw
        case rel => exact ⟨k + 1, _, by go_num, hlt, HFIN.out⟩
        case measure => simp [intOf]; omega
    · obtain rfl : k = m := by omega
      go_wp2_with fail
      go_end0
      exact ⟨rfl, zs, hrel.out⟩
end Go.Proofs.Yteiomafciignkaa
