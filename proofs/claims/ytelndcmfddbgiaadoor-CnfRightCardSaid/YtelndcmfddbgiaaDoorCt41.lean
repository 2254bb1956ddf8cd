/- The document's norm: kind 3. The document's norm: kinds 5 and 6. The document's norm, of every sound formula. -/
import Derived.Test.YtelndcmfddbgiaaDoorCt40
import Derived.Deep.RegionHeld3
set_option linter.unusedVariables false
set_option linter.unusedSimpArgs false
namespace Go.Proofs.YtelndcmfddbgiaaDoor
open Go.RowKit

theorem pair_keep0 {W : World} {M1 M2 No : Nat} {x0 x1 x2 x3 p0 p1 p2 p3 q0 q1 q2 q3 : Value} {o : Obj}
    (hp : W.cell? ⟨M1, 0, none⟩ = some p0 ∧ W.cell? ⟨M1, 1, none⟩ = some p1 ∧ W.cell? ⟨M1, 2, none⟩ = some p2 ∧ W.cell? ⟨M1, 3, none⟩ = some p3)
    (hq : W.cell? ⟨M2, 0, none⟩ = some q0 ∧ W.cell? ⟨M2, 1, none⟩ = some q1 ∧ W.cell? ⟨M2, 2, none⟩ = some q2 ∧ W.cell? ⟨M2, 3, none⟩ = some q3) (h1 : M1 < W.heap.size) (h2 : M2 < W.heap.size) (n1 : M1 ≠ No) (n2 : M2 ≠ No)
    (V : World) (hV : V = ((((W.setCell ⟨No, 0, none⟩ x0).setCell ⟨No, 1, none⟩ x1).setCell ⟨No, 2, none⟩ x2).setCell ⟨No, 3, none⟩ x3).alloc o) :
    (V.cell? ⟨M1, 0, none⟩ = some p0 ∧ V.cell? ⟨M1, 1, none⟩ = some p1 ∧ V.cell? ⟨M1, 2, none⟩ = some p2 ∧ V.cell? ⟨M1, 3, none⟩ = some p3) ∧
    (V.cell? ⟨M2, 0, none⟩ = some q0 ∧ V.cell? ⟨M2, 1, none⟩ = some q1 ∧ V.cell? ⟨M2, 2, none⟩ = some q2 ∧ V.cell? ⟨M2, 3, none⟩ = some q3) := by
  have hk : ∀ b j, b < W.heap.size → b ≠ No → V.cell? ⟨b, j, none⟩ = W.cell? ⟨b, j, none⟩ := fun b j hb hne => by
    have h4 := set4_far W No x0 x1 x2 x3 b j hne
    have hs := set4_size W No x0 x1 x2 x3
    unfold set4 at h4 hs
    generalize (((W.setCell ⟨No, 0, none⟩ x0).setCell ⟨No, 1, none⟩ x1).setCell ⟨No, 2, none⟩ x2).setCell ⟨No, 3, none⟩ x3 = X at h4 hs hV
    have hba := (Below.refl X.heap.size X).alloc (Nat.le_refl _) o
    rw [← h4, hV]
    exact hba.cell (p := ⟨b, j, none⟩) (by rw [hs]; exact hb)
  obtain ⟨a0, a1, a2, a3⟩ := hp
  obtain ⟨b0, b1, b2, b3⟩ := hq
  exact ⟨⟨(hk _ _ h1 n1).trans a0, (hk _ _ h1 n1).trans a1, (hk _ _ h1 n1).trans a2, (hk _ _ h1 n1).trans a3⟩, (hk _ _ h2 n2).trans b0, (hk _ _ h2 n2).trans b1, (hk _ _ h2 n2).trans b2, (hk _ _ h2 n2).trans b3⟩

/-- Two formulas in two boxes. -/
structure TS (w W : World) (M1 M2 : Nat) (g1 g2 : FT) (x0 x1 x2 x3 y0 y1 y2 y3 : Value) : Prop where
  bel : Below w.heap.size w W
  fb : FB W (w.heap.size + 1)
  z : w.heap.size + 1 < W.heap.size
  l1 : M1 < W.heap.size
  l2 : M2 < W.heap.size
  n1 : M1 ≠ w.heap.size + 1
  n2 : M2 ≠ w.heap.size + 1
  c1 : W.cell? ⟨M1, 0, none⟩ = some x0 ∧ W.cell? ⟨M1, 1, none⟩ = some x1 ∧ W.cell? ⟨M1, 2, none⟩ = some x2 ∧ W.cell? ⟨M1, 3, none⟩ = some x3
  c2 : W.cell? ⟨M2, 0, none⟩ = some y0 ∧ W.cell? ⟨M2, 1, none⟩ = some y1 ∧ W.cell? ⟨M2, 2, none⟩ = some y2 ∧ W.cell? ⟨M2, 3, none⟩ = some y3
  f1 : FLiesQ (fun b => w.heap.size + 2 ≤ b ∧ b < W.heap.size) W 2 g1 [x0, x1, x2, x3]
  f2 : FLiesQ (fun b => w.heap.size + 2 ≤ b ∧ b < W.heap.size) W 2 g2 [y0, y1, y2, y3]
/-- Its first half. -/
structure T1 (w W : World) (M1 : Nat) (g1 : FT) (x0 x1 x2 x3 : Value) : Prop where
  bel : Below w.heap.size w W
  fb : FB W (w.heap.size + 1)
  z : w.heap.size + 2 ≤ M1
  l1 : M1 < W.heap.size
  c1 : W.cell? ⟨M1, 0, none⟩ = some x0 ∧ W.cell? ⟨M1, 1, none⟩ = some x1 ∧ W.cell? ⟨M1, 2, none⟩ = some x2 ∧ W.cell? ⟨M1, 3, none⟩ = some x3
  f1 : FLiesQ (fun b => w.heap.size + 2 ≤ b ∧ b < M1) W 2 g1 [x0, x1, x2, x3]
theorem ts_a {w W4 w8 : World} {M1 L : Nat} {g1 g2 : FT} {x0 x1 x2 x3 y0 y1 y2 y3 : Value} (h : T1 w W4 M1 g1 x0 x1 x2 x3) (hb : Below W4.heap.size W4 w8) (hL : W4.heap.size ≤ L) (hf : FLiesQ (fun b => L ≤ b ∧ b < w8.heap.size) w8 2 g2 [y0, y1, y2, y3]) :
    TS w (w8.alloc (.cells #[y0, y1, y2, y3] 27)) M1 w8.heap.size g1 g2 x0 x1 x2 x3 y0 y1 y2 y3 := by
  have hz := hb.size
  have hba : Below w8.heap.size w8 (w8.alloc (.cells #[y0, y1, y2, y3] 27)) := (Below.refl _ _).alloc (Nat.le_refl _) _
  have hzz := lt_of_some (heap_alloc_new w8 (.cells #[y0, y1, y2, y3] 27))
  have hbb : Below W4.heap.size W4 (w8.alloc (.cells #[y0, y1, y2, y3] 27)) := hb.trans (hba.mono hz)
  obtain ⟨bel, fb, z, l1, ⟨c0, c1, c2, c3⟩, f1⟩ := h
  exact ⟨bel.trans (hbb.mono (by omega)), fb.below hbb (by omega), by omega, by omega, hzz, by omega, by omega,
    ⟨(hbb.cell (p := ⟨M1, 0, none⟩) l1).trans c0, (hbb.cell (p := ⟨M1, 1, none⟩) l1).trans c1, (hbb.cell (p := ⟨M1, 2, none⟩) l1).trans c2, (hbb.cell (p := ⟨M1, 3, none⟩) l1).trans c3⟩, form_cells (heap_alloc_new w8 _),
    f1.keep (fun b ⟨h1, h2⟩ => ⟨h1, by omega⟩) (fun b o ⟨h1, h2⟩ => hbb.cell (p := ⟨b, o, none⟩) (by show b < _; omega)), hf.keep (fun b ⟨h1, h2⟩ => ⟨by omega, by omega⟩) (fun b o ⟨h1, h2⟩ => hba.cell (p := ⟨b, o, none⟩) h2)⟩
theorem ts_b {w W4 w8 : World} {M1 M2 L : Nat} {g1 g2 : FT} {x0 x1 x2 x3 y0 y1 y2 y3 u0 u1 u2 u3 : Value} (h : T1 w W4 M1 g1 x0 x1 x2 x3) (hb : Below W4.heap.size W4 w8) (hM : W4.heap.size ≤ M2) (hML : M2 < L) (hrow : w8.heap[M2]? = some (.cells #[u0, u1, u2, u3] 27 (0, 0)))
    (hf : FLiesQ (fun b => L ≤ b ∧ b < w8.heap.size) w8 2 g2 [y0, y1, y2, y3]) :
    TS w ((((w8.setCell ⟨M2, 0, none⟩ y0).setCell ⟨M2, 1, none⟩ y1).setCell ⟨M2, 2, none⟩ y2).setCell ⟨M2, 3, none⟩ y3) M1 M2 g1 g2 x0 x1 x2 x3 y0 y1 y2 y3 := by
  have hz := hb.size
  have hs := four_size w8 M2 y0 y1 y2 y3
  have hl2 := lt_of_some hrow
  obtain ⟨t0, t1, t2, t3⟩ := form_cells hrow
  have h4 := set4_at t0 t1 t2 t3 y0 y1 y2 y3
  have hfar := fun b o hne => set4_far w8 M2 y0 y1 y2 y3 b o hne
  obtain ⟨bel, fb, z, l1, ⟨c0, c1, c2, c3⟩, f1⟩ := h
  have hfb := fb_four (fb.below hb (by omega)) (show w.heap.size + 1 ≠ M2 by omega) y0 y1 y2 y3
  have hbel := below4 (bel.trans (hb.mono (by omega))) (show w.heap.size ≤ M2 by omega) y0 y1 y2 y3
  unfold set4 at h4 hfar
  generalize (((w8.setCell ⟨M2, 0, none⟩ y0).setCell ⟨M2, 1, none⟩ y1).setCell ⟨M2, 2, none⟩ y2).setCell ⟨M2, 3, none⟩ y3 = V at hs h4 hfar hfb hbel ⊢
  have hk : ∀ b o, b < W4.heap.size → V.cell? ⟨b, o, none⟩ = W4.cell? ⟨b, o, none⟩ := fun b o h => (hfar b o (by omega)).trans (hb.cell (p := ⟨b, o, none⟩) h)
  exact ⟨hbel, hfb, by omega, by omega, by omega, by omega, by omega, ⟨(hk _ _ l1).trans c0, (hk _ _ l1).trans c1, (hk _ _ l1).trans c2, (hk _ _ l1).trans c3⟩, h4,
    f1.keep (fun b ⟨h1, h2⟩ => ⟨h1, by omega⟩) (fun b o ⟨h1, h2⟩ => hk b o (by omega)), hf.keep (fun b ⟨h1, h2⟩ => ⟨by omega, by omega⟩) (fun b o ⟨h1, h2⟩ => hfar b o (by omega))⟩

end Go.Proofs.YtelndcmfddbgiaaDoor

namespace Go.Proofs.YtelndcmfddbgiaaDoor
open Go.RowKit

end Go.Proofs.YtelndcmfddbgiaaDoor

namespace Go.Proofs.YtelndcmfddbgiaaDoor
open Go.RowKit

end Go.Proofs.YtelndcmfddbgiaaDoor
