/- What a divided form is. The document's Up; what a round of its Literal keeps. The document's own multiples of a form. The document's Literal: the ways without division; the state of its round. The document's Literal with terms. -/
import Derived.Test.YtelndcmfddbgiaaDoorCt03
import Derived.Test.YtelndcmfddbgiaaDoorCt28
import Derived.Test.YtelndcmfddbgiaaDoorCt32
import Derived.Deep.RegionLaw
import Derived.Maps.Range
import Derived.Deep.RegionHeld3
import Derived.Deep.AppendLies
import Derived.Deep.DrawnRows
set_option linter.unusedVariables false
set_option linter.unusedSimpArgs false
namespace Go.Proofs.YtelndcmfddbgiaaDoor
open Go.RowKit

theorem okAt_mkG {l : List (Int × Int)} {i : Nat} (h : lastAt l i < (l.getD i (0, 0)).1 ∧ (l.getD i (0, 0)).2 ≠ 0 ∧ 0 ≤ (l.getD i (0, 0)).1 ∧ (l.getD i (0, 0)).1 < 1048576 ∧ -1073741824 ≤ (l.getD i (0, 0)).2 ∧ (l.getD i (0, 0)).2 ≤ 1073741824) : okAt l i = true := by
  obtain ⟨h1, h2, h3, h4, h5, h6⟩ := h
  unfold okAt chk mst wi
  simp only [Bool.and_eq_true, decide_eq_true_eq]
  exact ⟨h1, h2, ⟨h3, h4⟩, h5, h6⟩
theorem upI_wi {c g : Int} (hc : -1073741824 ≤ c ∧ c ≤ 1073741824) (hg : 1 ≤ g) : -1073741824 ≤ upI c g ∧ upI c g ≤ 1073741824 := by
  have h := tdiv_in (c := c) (g := g) (B := 1073741824) (by omega)
  unfold upI
  split
  · rename_i hm
    have hg2 : 2 ≤ g := by
      by_cases e : g = 1
      · subst e; rw [Int.tmod_one] at hm; omega
      · omega
    have h1 : (c.tdiv g).natAbs = c.natAbs / g.natAbs := Int.natAbs_tdiv c g
    have h2 : c.natAbs / g.natAbs ≤ c.natAbs / 2 := Nat.div_le_div_left (by omega) (by omega)
    omega
  · omega
theorem gAt_dvd (l : List (Int × Int)) : ∀ n j, j < n → gAt l n ∣ (l.getD j (0, 0)).2
  | 0, _, h => absurd h (Nat.not_lt_zero _)
  | n + 1, j, h => by
    have e : gAt l (n + 1) = (Nat.gcd (gAt l n).natAbs (l.getD n (0, 0)).2.natAbs : Nat) := rfl
    rw [e]
    by_cases hj : j = n
    · subst hj
      exact Int.ofNat_dvd_left.2 (Nat.gcd_dvd_right _ _)
    · have ih := gAt_dvd l n j (by omega)
      have h1 : ((Nat.gcd (gAt l n).natAbs (l.getD n (0, 0)).2.natAbs : Nat) : Int) ∣ gAt l n := Int.ofNat_dvd_left.2 (Nat.gcd_dvd_left _ _)
      exact Int.dvd_trans h1 ih
theorem tdiv_ne {k g : Int} (hk : k ≠ 0) (hg : 1 ≤ g) (hd : g ∣ k) : k.tdiv g ≠ 0 := by
  obtain ⟨q, rfl⟩ := hd
  rw [Int.mul_tdiv_cancel_left _ (by omega)]
  intro h
  subst h
  exact hk (Int.mul_zero _)
theorem redL_len (g : Int) (l : List (Int × Int)) : (redL g l).length = l.length := by unfold redL; rw [List.length_map]
theorem redL_last (g : Int) (l : List (Int × Int)) (i : Nat) (h : i < l.length) : lastAt (redL g l) i = lastAt l i := by
  unfold lastAt
  by_cases h0 : i = 0
  · rw [if_pos h0, if_pos h0]
  · rw [if_neg h0, if_neg h0, redL_get g l (i - 1) (by omega)]
/-- A sound form divided is sound. -/
theorem red_snd {c : Int} {l : List (Int × Int)} (hs : snd c l = true) (h0 : 0 < l.length) : snd (upI c (gAt l l.length)) (redL (gAt l l.length) l) = true := by
  obtain ⟨hc, h64, hall⟩ := snd_iff.1 hs
  have hcb : -1073741824 ≤ c ∧ c ≤ 1073741824 := by unfold wi at hc; simpa using hc
  have hg := gAt_pos hs l.length h0 (Nat.le_refl _)
  refine snd_iff.2 ⟨wi_t (upI_wi hcb hg), by rw [redL_len]; exact h64, fun i hi => ?_⟩
  rw [redL_len] at hi
  obtain ⟨h1, h2, h3, h4, h5, h6⟩ := okAt_in (hall i hi)
  have hd := tdiv_ne h2 hg (gAt_dvd l l.length i hi)
  have hb := tdiv_in (c := (l.getD i (0, 0)).2) (g := gAt l l.length) (B := 1073741824) (by omega)
  refine okAt_mkG ?_
  rw [redL_last _ _ _ hi, redL_get _ _ _ hi]
  exact ⟨h1, hd, h3, h4, by omega, by omega⟩
theorem snd_lt {c : Int} {l : List (Int × Int)} (hs : snd c l = true) : ∀ j i, i < j → j < l.length → (l.getD i (0, 0)).1 < (l.getD j (0, 0)).1
  | 0, i, h, _ => absurd h (Nat.not_lt_zero i)
  | j + 1, i, h, hj => by
    have h1 := (okAt_in ((snd_iff.1 hs).2.2 (j + 1) hj)).1
    rw [lastAt_succ] at h1
    by_cases e : i = j
    · rw [e]; exact h1
    · have := snd_lt hs j i (by omega) (by omega)
      omega
theorem snd_Up {c : Int} {l : List (Int × Int)} (hs : snd c l = true) : Up l := by
  refine List.pairwise_iff_getElem.2 fun i j hi hj hij => ?_
  have := snd_lt hs j i hij hj
  rwa [List.getD_eq_getElem?_getD, List.getElem?_eq_getElem hi, List.getD_eq_getElem?_getD, List.getElem?_eq_getElem hj] at this
theorem neg_sum {c : Int} {l : List (Int × Int)} (hs : snd c l = true) : IsSum (scale 1 [] ++ scale (-1) l) (scale (-1) l) := by
  refine ⟨?_, fun m hm => ?_, fun v => by rw [show scale 1 [] = [] from rfl, List.nil_append]⟩
  · exact List.Pairwise.map _ (fun a b h => h) (snd_Up hs)
  · obtain ⟨p, hp, rfl⟩ := List.mem_map.1 hm
    obtain ⟨i, hi, rfl⟩ := List.getElem_of_mem hp
    have := (okAt_in ((snd_iff.1 hs).2.2 i hi)).2.1
    rw [List.getD_eq_getElem?_getD, List.getElem?_eq_getElem hi] at this
    simp only [Option.getD_some] at this
    simp only
    omega
theorem neg_wi {c : Int} {l : List (Int × Int)} (hs : snd c l = true) : ∀ m ∈ scale (-1) l, wi m.2 1073741824 = true := fun m hm => by
  obtain ⟨p, hp, rfl⟩ := List.mem_map.1 hm
  have := (snd_terms hs p hp).2
  exact wi_t (by simp only; omega)
end Go.Proofs.YtelndcmfddbgiaaDoor

namespace Go.Proofs.YtelndcmfddbgiaaDoor
open Go.RowKit

theorem upI_ceil {c g : Int} (hg : 1 ≤ g) : c ≤ upI c g * g ∧ (upI c g - 1) * g < c := by
  have h1 : c.tmod g + g * c.tdiv g = c := Int.tmod_add_mul_tdiv c g
  have h2 : c.tmod g < g := Int.tmod_lt_of_pos c (by omega)
  have h3 : -g < c.tmod g := by
    have := Int.natAbs_tmod c g
    have h4 : c.natAbs % g.natAbs < g.natAbs := Nat.mod_lt _ (by omega)
    omega
  rw [Int.mul_comm] at h1
  unfold upI
  generalize c.tdiv g = q at h1 ⊢
  generalize c.tmod g = r at h1 h2 h3 ⊢
  have e1 : (q + 1) * g = q * g + g := by rw [Int.add_mul, Int.one_mul]
  have e2 : (q - 1) * g = q * g - g := by rw [Int.sub_mul, Int.one_mul]
  generalize q * g = X at h1 e1 e2
  split
  · rw [e1, show q + 1 - 1 = q by omega]
    constructor
    · omega
    · rename_i h5
      have : q * g = X := by have := e1; rw [Int.add_mul, Int.one_mul] at this; omega
      omega
  · rw [e2]
    have : q * g = X := by have := e1; rw [Int.add_mul, Int.one_mul] at this; omega
    omega
theorem upI_near (c g : Int) : c.tdiv g = upI c g ∨ c.tdiv g = upI c g - 1 := by
  unfold upI
  split <;> omega

end Go.Proofs.YtelndcmfddbgiaaDoor

namespace Go.Proofs.YtelndcmfddbgiaaDoor
open Go.RowKit

attribute [local go_sem ↓] Go.wp_at_zero Go.wp_at_succ
end Go.Proofs.YtelndcmfddbgiaaDoor

namespace Go.Proofs.YtelndcmfddbgiaaDoor
open Go.RowKit

/-- Within the document's Literal: its form, the result, the form that it makes. -/
structure LitSt (w W : World) (c u : Int) (a : Option Addr) (n cap Mb : Nat) (v : Value) (r : List (Int × Int)) : Prop where
  row : Row (Mb + 1) r v W
  l0 : W.cell? ⟨w.heap.size, 0, none⟩ = some (.int .i64 c)
  l1 : W.cell? ⟨w.heap.size, 1, none⟩ = some (.slice a n cap)
  fb : FB W (w.heap.size + 1)
  m0 : W.cell? ⟨Mb, 0, none⟩ = some (.int .i64 u)
  m1 : W.cell? ⟨Mb, 1, none⟩ = some v
  mf : ∀ o, W.frozen? ⟨Mb, o, none⟩ = false
  lt : w.heap.size + 1 < Mb
  mz : Mb < W.heap.size
  bel : Below w.heap.size w W
theorem LitSt.start {w w1 : World} {c u : Int} {a : Option Addr} {n cap : Nat} (hb : Below w.heap.size w w1) (hz : w.heap.size + 1 < w1.heap.size) (p0 : w1.cell? ⟨w.heap.size, 0, none⟩ = some (.int .i64 c)) (p1 : w1.cell? ⟨w.heap.size, 1, none⟩ = some (.slice a n cap)) (hf : FB w1 (w.heap.size + 1)) :
    LitSt w (w1.alloc (.cells #[.int .i64 u, .slice none 0 0] 24)) c u a n cap w1.heap.size (.slice none 0 0) [] := by
  have hba : Below w1.heap.size w1 (w1.alloc (.cells #[.int .i64 u, .slice none 0 0] 24)) := (Below.refl _ w1).alloc (Nat.le_refl _) _
  have hn := heap_alloc_new w1 (.cells #[.int .i64 u, .slice none 0 0] 24)
  exact ⟨World.ownsRow_nil _ _ _ _, (hba.cell (p := ⟨w.heap.size, 0, none⟩) (by show w.heap.size < _; omega)).trans p0, (hba.cell (p := ⟨w.heap.size, 1, none⟩) (by show w.heap.size < _; omega)).trans p1, hf.below hba hz,
    by rw [cell_of_row _ _ _ _ _ _ hn]; rfl, by rw [cell_of_row _ _ _ _ _ _ hn]; rfl, fun o => frozen_of_row _ _ _ _ _ hn, hz, by simp, hb.trans (hba.mono hb.size)⟩
theorem LitSt.below {w W w6 w5 : World} {c u : Int} {a : Option Addr} {n cap Mb : Nat} {v : Value} {r : List (Int × Int)} (h : LitSt w W c u a n cap Mb v r) (hb5 : Below (Mb + 1) W w5) (hg : w5.grownBy w6 v.ownBlock) : Below (Mb + 1) W w6 :=
  hb5.grown hg (Nat.le_trans h.mz hb5.size) (fun j hj => (World.ownsRow.lt h.row j hj).1)
theorem LitSt.far {w W w6 w5 : World} {c u : Int} {a : Option Addr} {n cap Mb : Nat} {v : Value} {r : List (Int × Int)} (h : LitSt w W c u a n cap Mb v r) (hb5 : Below (Mb + 1) W w5) (hg : w5.grownBy w6 v.ownBlock) :
    w6.cell? ⟨Mb, 1, none⟩ = some v ∧ ∀ o, w6.frozen? ⟨Mb, o, none⟩ = false := by
  have hb6 := h.below hb5 hg
  exact ⟨(hb6.cell (p := ⟨Mb, 1, none⟩) (Nat.lt_succ_self _)).trans h.m1, fun o => (hb6.frozen (p := ⟨Mb, o, none⟩) (Nat.lt_succ_self _)).trans (h.mf o)⟩
theorem LitSt.step {w W w6 w5 : World} {c u : Int} {a : Option Addr} {n cap Mb : Nat} {v v6 : Value} {r r6 : List (Int × Int)} (h : LitSt w W c u a n cap Mb v r) (hb5 : Below (Mb + 1) W w5) (hg : w5.grownBy w6 v.ownBlock) (hr : Row (Mb + 1) r6 v6 w6) :
    LitSt w (w6.setCell ⟨Mb, 1, none⟩ v6) c u a n cap Mb v6 r6 := by
  have hb6 := h.below hb5 hg
  have hlt := h.lt
  have hz6 : Mb < w6.heap.size := Nat.lt_of_lt_of_le h.mz hb6.size
  have k : w6.grownBy (w6.setCell ⟨Mb, 1, none⟩ v6) (some Mb) := ⟨rfl, rfl, rfl, Nat.le_of_eq (World.size_setCell _ _ _).symm, fun q _ hq => Below.heap_setCell _ _ _ _ (fun e => hq (by rw [e]))⟩
  have hc : ∀ b o, b < Mb → (w6.setCell ⟨Mb, 1, none⟩ v6).cell? ⟨b, o, none⟩ = W.cell? ⟨b, o, none⟩ := fun b o hb => by
    rw [World.cell?_setCell_other _ _ _ _ (by simp <;> omega)]
    exact hb6.cell (p := ⟨b, o, none⟩) (by show b < _; omega)
  have hf : ∀ b o, b ≤ Mb → (w6.setCell ⟨Mb, 1, none⟩ v6).frozen? ⟨b, o, none⟩ = W.frozen? ⟨b, o, none⟩ := fun b o hb => (World.frozen?_setCell _ _ _ _).trans (hb6.frozen (p := ⟨b, o, none⟩) (by show b < _; omega))
  refine ⟨World.ownsRow.kept hr k (.inr (fun e => ?_)), (hc _ _ (by omega)).trans h.l0, (hc _ _ (by omega)).trans h.l1, ⟨(hc _ _ hlt).trans h.fb.r0, (hc _ _ hlt).trans h.fb.r1, (hc _ _ hlt).trans h.fb.r2, (hc _ _ hlt).trans h.fb.r3, fun o => (hf _ o (by omega)).trans (h.fb.fz o)⟩, ?_, ?_, fun o => (hf _ o (Nat.le_refl _)).trans (h.mf o), hlt, by rw [World.size_setCell]; exact hz6, (h.bel.trans (hb6.mono (by omega))).setCell (p := ⟨Mb, 1, none⟩) (by show _ ≤ Mb; omega) _⟩
  · have := (World.ownsRow.lt hr _ e).1; omega
  · rw [World.cell?_setCell_other _ _ _ _ (by simp)]
    exact (hb6.cell (p := ⟨Mb, 0, none⟩) (Nat.lt_succ_self _)).trans h.m0
  · exact World.cell?_setCell_same _ _ _ (h.far hb5 hg).1
end Go.Proofs.YtelndcmfddbgiaaDoor

namespace Go.Proofs.YtelndcmfddbgiaaDoor
open Go.RowKit

/-- A list's place, behind the result's store. -/
theorem lies_set4 {S : Nat → Prop} {W : World} {No : Nat} {l : List (Int × Int)} {ad : Option Addr} (h : LiesQ S W ad l) (hne : ∀ b o, ad = some ⟨b, o, none⟩ → b ≠ No) (x0 x1 x2 x3 : Value) : LiesQ S ((((W.setCell ⟨No, 0, none⟩ x0).setCell ⟨No, 1, none⟩ x1).setCell ⟨No, 2, none⟩ x2).setCell ⟨No, 3, none⟩ x3) ad l := fun j hj => by
  obtain ⟨b7, o7, e7, hb7, y1, y2⟩ := h j hj
  have hbn : b7 ≠ No := hne b7 o7 e7
  have hfar : ∀ o, ((((W.setCell ⟨No, 0, none⟩ x0).setCell ⟨No, 1, none⟩ x1).setCell ⟨No, 2, none⟩ x2).setCell ⟨No, 3, none⟩ x3).cell? ⟨b7, o, none⟩ = W.cell? ⟨b7, o, none⟩ := fun o => by
    rw [World.cell?_setCell_other _ _ _ _ (by simp [hbn]), World.cell?_setCell_other _ _ _ _ (by simp [hbn]), World.cell?_setCell_other _ _ _ _ (by simp [hbn]), World.cell?_setCell_other _ _ _ _ (by simp [hbn])]
  exact ⟨b7, o7, e7, hb7, (hfar _).trans y1, (hfar _).trans y2⟩
theorem four_size (W : World) (No : Nat) (x0 x1 x2 x3 : Value) : ((((W.setCell ⟨No, 0, none⟩ x0).setCell ⟨No, 1, none⟩ x1).setCell ⟨No, 2, none⟩ x2).setCell ⟨No, 3, none⟩ x3).heap.size = W.heap.size := by rw [World.size_setCell, World.size_setCell, World.size_setCell, World.size_setCell]

/-- What a literal of terms is: u, R the divided form, K its first coefficient. -/
structure LitIs (u : Int) (R : List (Int × Int)) (K : Int) (f : FT) (x : Int) : Prop where
  pos : 0 < K → f = .mk 2 u R [] ∧ x = 0
  neg : ¬ 0 < K → wi (1 - u) 1073741824 = true → f = .mk 4 0 [] [.mk 2 (1 - u) (scale (-1) R) []] ∧ x = 0
  err : ¬ 0 < K → wi (1 - u) 1073741824 = false → f = .mk 0 0 [] [] ∧ x = 3

/-- Where the form that is not taken lies. -/
structure NegSt (w W : World) (x : Int) (n Nb : Nat) (ad : Option Addr) (cp : Nat) (S : List (Int × Int)) : Prop where
  n0 : W.cell? ⟨Nb, 0, none⟩ = some (.int .i64 x)
  n1 : W.cell? ⟨Nb, 1, none⟩ = some (.slice ad n cp)
  fb : FB W (w.heap.size + 1)
  lies : Lies W.heap.size W ad S
  ne : ∀ b o, ad = some ⟨b, o, none⟩ → w.heap.size + 1 < b
  lt : w.heap.size + 1 < W.heap.size
  bel : Below w.heap.size w W
theorem Row.lies_ne {B k cap : Nat} {S : List (Int × Int)} {a : Option Addr} {W : World} (h : Row B S (.slice a k cap) W) : Lies W.heap.size W a S ∧ ∀ b o, a = some ⟨b, o, none⟩ → B ≤ b := by
  obtain ⟨a', cap', e, hl, _⟩ := h.lies
  injection e with e1 e2 e3
  subst e1
  exact ⟨hl, fun b o e => (World.ownsRow.lt h b (by rw [e]; rfl)).1⟩
theorem neg_a {w wo w6 : World} {x : Int} {k B : Nat} {a6 : Option Addr} {cap6 : Nat} {S : List (Int × Int)} (hfb : FB wo (w.heap.size + 1)) (hbe : Below w.heap.size w wo) (hlt : w.heap.size + 1 < wo.heap.size) (hb : Below wo.heap.size wo w6) (hrow : Row B S (.slice a6 k cap6) w6) (hB : wo.heap.size ≤ B) :
    NegSt w (w6.alloc (.cells #[.int .i64 x, .slice a6 k cap6] 24)) x k w6.heap.size a6 cap6 S := by
  have hba : Below w6.heap.size w6 (w6.alloc (.cells #[.int .i64 x, .slice a6 k cap6] 24)) := (Below.refl _ w6).alloc (Nat.le_refl _) _
  have hn := heap_alloc_new w6 (.cells #[.int .i64 x, .slice a6 k cap6] 24)
  obtain ⟨hl, hne⟩ := hrow.lies_ne
  have hs := hb.size
  exact ⟨by rw [cell_of_row _ _ _ _ _ _ hn]; rfl, by rw [cell_of_row _ _ _ _ _ _ hn]; rfl, (hfb.below hb hlt).below hba (by omega), (hl.below hba).mono hba.size, fun b o e => (by have := hne b o e; omega), Nat.lt_of_lt_of_le (Nat.lt_of_lt_of_le hlt hs) hba.size, (hbe.trans (hb.mono hbe.size)).trans (hba.mono (Nat.le_trans hbe.size hs))⟩
theorem neg_b {w wo w6 : World} {x : Int} {k B : Nat} {a6 : Option Addr} {cap6 : Nat} {S : List (Int × Int)} (hfb : FB wo (w.heap.size + 1)) (hbe : Below w.heap.size w wo) (hlt : w.heap.size + 1 < wo.heap.size) (hb : Below wo.heap.size wo w6) (hrow : Row B S (.slice a6 k cap6) w6) (hB : wo.heap.size < B)
    {y0 y1 : Value} (o0 : w6.cell? ⟨wo.heap.size, 0, none⟩ = some y0) (o1 : w6.cell? ⟨wo.heap.size, 1, none⟩ = some y1) :
    NegSt w ((w6.setCell ⟨wo.heap.size, 0, none⟩ (.int .i64 x)).setCell ⟨wo.heap.size, 1, none⟩ (.slice a6 k cap6)) x k wo.heap.size a6 cap6 S := by
  obtain ⟨hl, hne⟩ := hrow.lies_ne
  have hne2 : ∀ b o, a6 = some ⟨b, o, none⟩ → b ≠ wo.heap.size := fun b o e => by have := hne b o e; omega
  have hc : ∀ b o, b ≠ wo.heap.size → ((w6.setCell ⟨wo.heap.size, 0, none⟩ (.int .i64 x)).setCell ⟨wo.heap.size, 1, none⟩ (.slice a6 k cap6)).cell? ⟨b, o, none⟩ = w6.cell? ⟨b, o, none⟩ := fun b o h => by
    rw [World.cell?_setCell_other _ _ _ _ (by simp [h]), World.cell?_setCell_other _ _ _ _ (by simp [h])]
  have hf6 := hfb.below hb hlt
  have hz : ((w6.setCell ⟨wo.heap.size, 0, none⟩ (.int .i64 x)).setCell ⟨wo.heap.size, 1, none⟩ (.slice a6 k cap6)).heap.size = w6.heap.size := by rw [World.size_setCell, World.size_setCell]
  have hs := hb.size
  refine ⟨?_, World.cell?_setCell_same _ _ _ (u := y1) (by rw [World.cell?_setCell_other _ _ _ _ (by simp)]; exact o1), ⟨(hc _ _ (by omega)).trans hf6.r0, (hc _ _ (by omega)).trans hf6.r1, (hc _ _ (by omega)).trans hf6.r2, (hc _ _ (by omega)).trans hf6.r3, fun o => ((World.frozen?_setCell _ _ _ _).trans (World.frozen?_setCell _ _ _ _)).trans (hf6.fz o)⟩, fun j hj => ?_, fun b o e => (by have := hne b o e; omega), by rw [hz]; omega, ((hbe.trans (hb.mono hbe.size)).setCell (p := ⟨wo.heap.size, 0, none⟩) hbe.size _).setCell (p := ⟨wo.heap.size, 1, none⟩) hbe.size _⟩
  · rw [World.cell?_setCell_other _ _ _ _ (by simp)]
    exact World.cell?_setCell_same _ _ _ o0
  · obtain ⟨b7, o7, e7, hb7, y1', y2'⟩ := hl j hj
    exact ⟨b7, o7, e7, by rw [hz]; exact hb7, (hc _ _ (hne2 b7 o7 e7)).trans y1', (hc _ _ (hne2 b7 o7 e7)).trans y2'⟩
theorem neg_end {w W : World} {x : Int} {k Nb : Nat} {a6 : Option Addr} {cap6 : Nat} {S : List (Int × Int)} (h : NegSt w W x k Nb a6 cap6 S) (hS : S.length = k) (hk : k ≤ 64) :
    let V := (((((W.setCell ⟨w.heap.size + 1, 0, none⟩ (.int .i64 4)).setCell ⟨w.heap.size + 1, 1, none⟩ (.int .i64 0)).setCell ⟨w.heap.size + 1, 2, none⟩ (.slice none 0 0)).setCell ⟨w.heap.size + 1, 3, none⟩ (.slice (some ⟨W.heap.size, 0, none⟩) 1 1)).alloc (.cells #[.int .i64 2, .int .i64 x, .slice a6 k cap6, .slice none 0 0] 27))
    FLiesQ (fun b => w.heap.size ≤ b ∧ b < V.heap.size) V 2 (.mk 4 0 [] [.mk 2 x S []]) [.int .i64 4, .int .i64 0, .slice none 0 0, .slice (some ⟨W.heap.size, 0, none⟩) 1 1] ∧ Below w.heap.size w V ∧
      V.cell? ⟨w.heap.size + 1, 0, none⟩ = some (.int .i64 4) ∧ V.cell? ⟨w.heap.size + 1, 1, none⟩ = some (.int .i64 0) ∧ V.cell? ⟨w.heap.size + 1, 2, none⟩ = some (.slice none 0 0) ∧ V.cell? ⟨w.heap.size + 1, 3, none⟩ = some (.slice (some ⟨W.heap.size, 0, none⟩) 1 1) := by
  subst hS
  have hz := four_size W (w.heap.size + 1) (.int .i64 4) (.int .i64 0) (.slice none 0 0) (.slice (some ⟨W.heap.size, 0, none⟩) 1 1)
  obtain ⟨e0, e1, e2, e3⟩ := res4 h.fb (.int .i64 4) (.int .i64 0) (.slice none 0 0) (.slice (some ⟨W.heap.size, 0, none⟩) 1 1)
  have hlS : LiesQ (fun b => w.heap.size ≤ b ∧ b < W.heap.size) W a6 S := fun i hi => by
    obtain ⟨b, off, e, hb, g0, g1⟩ := h.lies i hi
    have := h.ne b off e
    exact ⟨b, off, e, ⟨by omega, hb⟩, g0, g1⟩
  have hl := lies_set4 hlS (fun b o e => Nat.ne_of_gt (h.ne b o e)) (.int .i64 4) (.int .i64 0) (.slice none 0 0) (.slice (some ⟨W.heap.size, 0, none⟩) 1 1)
  have hb := below4 h.bel (Nat.le_succ _) (.int .i64 4) (.int .i64 0) (.slice none 0 0) (.slice (some ⟨W.heap.size, 0, none⟩) 1 1)
  generalize (((W.setCell ⟨w.heap.size + 1, 0, none⟩ (.int .i64 4)).setCell ⟨w.heap.size + 1, 1, none⟩ (.int .i64 0)).setCell ⟨w.heap.size + 1, 2, none⟩ (.slice none 0 0)).setCell ⟨w.heap.size + 1, 3, none⟩ (.slice (some ⟨W.heap.size, 0, none⟩) 1 1) = W4 at hz e0 e1 e2 e3 hl hb ⊢
  intro V
  have hba : Below W4.heap.size W4 V := (Below.refl _ W4).alloc (Nat.le_refl _) _
  have hn := heap_alloc_new W4 (.cells #[.int .i64 2, .int .i64 x, .slice a6 S.length cap6, .slice none 0 0] 27)
  rw [hz] at hn
  have hlt := h.lt
  have hVz : W.heap.size < V.heap.size := by rw [← hz]; exact lt_of_some (W := V) (b := W4.heap.size) (by rw [hz]; exact hn)
  refine ⟨⟨none, 0, some ⟨W.heap.size, 0, none⟩, 1, rfl, fun i hi => absurd hi (Nat.not_lt_zero i), by simp [FT.t], by simp [FT.ks], fun i hi => ?_⟩, hb.trans (hba.mono hb.size), (hba.cell (p := ⟨w.heap.size + 1, 0, none⟩) (by rw [hz]; exact hlt)).trans e0, (hba.cell (p := ⟨w.heap.size + 1, 1, none⟩) (by rw [hz]; exact hlt)).trans e1, (hba.cell (p := ⟨w.heap.size + 1, 2, none⟩) (by rw [hz]; exact hlt)).trans e2, (hba.cell (p := ⟨w.heap.size + 1, 3, none⟩) (by rw [hz]; exact hlt)).trans e3⟩
  obtain rfl : i = 0 := by simpa [FT.ks] using hi
  have hwW := h.bel.size
  refine ⟨W.heap.size, 0, _, _, _, _, rfl, ⟨hwW, hVz⟩, (cell_of_row _ _ _ _ _ _ hn).trans rfl, (cell_of_row _ _ _ _ _ _ hn).trans rfl, (cell_of_row _ _ _ _ _ _ hn).trans rfl, (cell_of_row _ _ _ _ _ _ hn).trans rfl, ?_⟩
  exact flies_leafS (by omega) (hl.keep (fun b ⟨h1, h2⟩ => ⟨h1, Nat.lt_trans h2 hVz⟩) (fun b o ⟨h1, h2⟩ => hba.cell (p := ⟨b, o, none⟩) (by rw [hz]; exact h2)))

end Go.Proofs.YtelndcmfddbgiaaDoor
