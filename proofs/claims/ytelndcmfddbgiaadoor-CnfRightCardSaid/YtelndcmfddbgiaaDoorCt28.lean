/- norm.Literal, where the first coefficient is above 0; the document's examples of layer 3. Formulas in blocks of a kind. norm.Literal: the ways without division. The sort of a list of terms, laid at this dump. -/
import Derived.Test.YtelndcmfddbgiaaDoorCt03
import Derived.Test.YtelndcmfddbgiaaDoorCt06
import Derived.Test.YtelndcmfddbgiaaDoorCt27
import Derived.Lib.SmallJoins
import Derived.ProofKit
import Derived.Shelf.SlSortCmp.WholeK
import Derived.Ground.SlsfProg
import Derived.Test.YtelndcmfddbgiaaDoorProg
set_option linter.unusedVariables false
set_option linter.unusedSimpArgs false
namespace Go.Proofs.YtelndcmfddbgiaaDoor
open Go.RowKit

theorem gAt_pos {c : Int} {l : List (Int × Int)} (hs : snd c l = true) : ∀ n, 0 < n → n ≤ l.length → 1 ≤ gAt l n
  | 0, h, _ => by omega
  | n + 1, _, h => by
    have hk := (okAt_in ((snd_iff.1 hs).2.2 n (by omega))).2.1
    have : 0 < Nat.gcd (gAt l n).natAbs (l.getD n (0, 0)).2.natAbs := Nat.gcd_pos_of_pos_right _ (by omega)
    show 1 ≤ ((Nat.gcd (gAt l n).natAbs (l.getD n (0, 0)).2.natAbs : Nat) : Int)
    omega
theorem redL_get (g : Int) (l : List (Int × Int)) (k : Nat) (h : k < l.length) : (redL g l).getD k (0, 0) = ((l.getD k (0, 0)).1, (l.getD k (0, 0)).2.tdiv g) := by
  unfold redL
  simp [List.getD_eq_getElem?_getD, h]

/-- The box of a form's result. -/
structure FB (W : World) (M : Nat) : Prop where
  r0 : W.cell? ⟨M, 0, none⟩ = some (.int .i64 0)
  r1 : W.cell? ⟨M, 1, none⟩ = some (.int .i64 0)
  r2 : W.cell? ⟨M, 2, none⟩ = some (.slice none 0 0)
  r3 : W.cell? ⟨M, 3, none⟩ = some (.slice none 0 0)
  fz : ∀ o, W.frozen? ⟨M, o, none⟩ = false
theorem FB.below {W W' : World} {M B : Nat} (h : FB W M) (hb : Below B W W') (hM : M < B) : FB W' M :=
  ⟨(hb.cell (p := ⟨M, 0, none⟩) hM).trans h.r0, (hb.cell (p := ⟨M, 1, none⟩) hM).trans h.r1, (hb.cell (p := ⟨M, 2, none⟩) hM).trans h.r2, (hb.cell (p := ⟨M, 3, none⟩) hM).trans h.r3, fun o => (hb.frozen (p := ⟨M, o, none⟩) hM).trans (h.fz o)⟩
theorem fb_new (W : World) (N : Nat) (hN : W.heap.size = N) : FB (W.alloc (.cells #[.int .i64 0, .int .i64 0, .slice none 0 0, .slice none 0 0] 27)) N := by
  subst hN
  have hb := heap_alloc_new W (.cells #[.int .i64 0, .int .i64 0, .slice none 0 0, .slice none 0 0] 27)
  exact ⟨by rw [cell_of_row _ _ _ _ _ _ hb]; rfl, by rw [cell_of_row _ _ _ _ _ _ hb]; rfl, by rw [cell_of_row _ _ _ _ _ _ hb]; rfl, by rw [cell_of_row _ _ _ _ _ _ hb]; rfl, fun o => frozen_of_row _ _ _ _ _ hb⟩
theorem res4 {W : World} {No : Nat} (h : FB W No) (x0 x1 x2 x3 : Value) :
    let W' := (((W.setCell ⟨No, 0, none⟩ x0).setCell ⟨No, 1, none⟩ x1).setCell ⟨No, 2, none⟩ x2).setCell ⟨No, 3, none⟩ x3
    W'.cell? ⟨No, 0, none⟩ = some x0 ∧ W'.cell? ⟨No, 1, none⟩ = some x1 ∧ W'.cell? ⟨No, 2, none⟩ = some x2 ∧ W'.cell? ⟨No, 3, none⟩ = some x3 := by
  refine ⟨?_, ?_, ?_, ?_⟩
  · rw [World.cell?_setCell_other _ _ _ _ (by simp), World.cell?_setCell_other _ _ _ _ (by simp), World.cell?_setCell_other _ _ _ _ (by simp)]
    exact World.cell?_setCell_same _ _ _ h.r0
  · rw [World.cell?_setCell_other _ _ _ _ (by simp), World.cell?_setCell_other _ _ _ _ (by simp)]
    refine World.cell?_setCell_same _ _ _ (u := .int .i64 0) ?_
    rw [World.cell?_setCell_other _ _ _ _ (by simp)]; exact h.r1
  · rw [World.cell?_setCell_other _ _ _ _ (by simp)]
    refine World.cell?_setCell_same _ _ _ (u := .slice none 0 0) ?_
    rw [World.cell?_setCell_other _ _ _ _ (by simp), World.cell?_setCell_other _ _ _ _ (by simp)]; exact h.r2
  · refine World.cell?_setCell_same _ _ _ (u := .slice none 0 0) ?_
    rw [World.cell?_setCell_other _ _ _ _ (by simp), World.cell?_setCell_other _ _ _ _ (by simp), World.cell?_setCell_other _ _ _ _ (by simp)]; exact h.r3
theorem Row.set4 {B : Nat} {l : List (Int × Int)} {v : Value} {W : World} (h : Row B l v W) (No : Nat) (hne : v.ownBlock ≠ some No) (x0 x1 x2 x3 : Value) :
    Row B l v ((((W.setCell ⟨No, 0, none⟩ x0).setCell ⟨No, 1, none⟩ x1).setCell ⟨No, 2, none⟩ x2).setCell ⟨No, 3, none⟩ x3) := by
  have k : ∀ (W : World) (o : Nat) (x : Value), W.grownBy (W.setCell ⟨No, o, none⟩ x) (some No) := fun W o x => ⟨rfl, rfl, rfl, Nat.le_of_eq (World.size_setCell _ _ _).symm, fun q _ hq => Below.heap_setCell _ _ _ _ (fun e => hq (by rw [e]))⟩
  exact World.ownsRow.kept (World.ownsRow.kept (World.ownsRow.kept (World.ownsRow.kept h (k _ _ _) (.inr hne)) (k _ _ _) (.inr hne)) (k _ _ _) (.inr hne)) (k _ _ _) (.inr hne)
theorem below4 {w W : World} {B No : Nat} (h : Below B w W) (hB : B ≤ No) (x0 x1 x2 x3 : Value) : Below B w ((((W.setCell ⟨No, 0, none⟩ x0).setCell ⟨No, 1, none⟩ x1).setCell ⟨No, 2, none⟩ x2).setCell ⟨No, 3, none⟩ x3) :=
  (((h.setCell (p := ⟨No, 0, none⟩) hB _).setCell (p := ⟨No, 1, none⟩) hB _).setCell (p := ⟨No, 2, none⟩) hB _).setCell (p := ⟨No, 3, none⟩) hB _
theorem Row.monoG {B B' : Nat} {l : List (Int × Int)} {v : Value} {w : World} (h : Row B l v w) (hB : B' ≤ B) : Row B' l v w := Joins.ownsRow_le h hB

set_option maxRecDepth 100000 in
set_option maxHeartbeats 2000000 in
theorem literal_pos (c : Int) (a : Option Addr) (n cap : Nat) (l : List (Int × Int)) (w : World) (hn : l.length = n) (hl : Lies w.heap.size w a l) (hs : snd c l = true) (h0 : 0 < n) (hp : 0 < (l.getD 0 (0, 0)).2.tdiv (gAt l n)) :
    Calls Tryd.prog 68 #[.agg #[.int .i64 c, .slice a n cap]] w fun e w' => ∃ v, e = .returned (.tuple #[.agg #[.int .i64 2, .int .i64 (upI c (gAt l n)), v, .slice none 0 0], .nilIface]) ∧ Row w.heap.size (redL (gAt l n) l) v w' ∧ Below w.heap.size w w' := by
  have hg1 := gAt_pos hs n h0 (by omega)
  have n64 : n ≤ 64 := by have := (snd_iff.1 hs).2.1; omega
  have HCK := Lib.hid (fun W (hb : Below w.heap.size w W) => check_yes c a n cap l W hn ((hl.below hb).mono hb.size) hs)
  have HRE := Lib.hid (fun W (hb : Below w.heap.size w W) => reduced_any c a n cap l W hn ((hl.below hb).mono hb.size) hs h0 hg1)
  have hlen : (redL (gAt l n) l).length = n := by unfold redL; rw [List.length_map, hn]
  have hget := redL_get (gAt l n) l 0 (by omega)
  have hb1 : Below w.heap.size w (w.alloc (.cells #[.int .i64 c, .slice a n cap] 24)) := (Below.refl _ w).alloc (Nat.le_refl _) _
  have B0 : Hid (Below w.heap.size w ((w.alloc (.cells #[.int .i64 c, .slice a n cap] 24)).alloc (.cells #[.int .i64 0, .int .i64 0, .slice none 0 0, .slice none 0 0] 27))) := hb1.alloc hb1.size _
  have F0 := Lib.hid (fb_new (w.alloc (.cells #[.int .i64 c, .slice a n cap] 24)) (w.heap.size + 1) (by simp))
  have L0 : Hid (((w.alloc (.cells #[.int .i64 c, .slice a n cap] 24)).alloc (.cells #[.int .i64 0, .int .i64 0, .slice none 0 0, .slice none 0 0] 27)).cell? ⟨w.heap.size, 0, none⟩ = some (.int .i64 c) ∧ ((w.alloc (.cells #[.int .i64 c, .slice a n cap] 24)).alloc (.cells #[.int .i64 0, .int .i64 0, .slice none 0 0, .slice none 0 0] 27)).cell? ⟨w.heap.size, 1, none⟩ = some (.slice a n cap)) := by
    have hb2 := (Below.refl (w.alloc (.cells #[.int .i64 c, .slice a n cap] 24)).heap.size (w.alloc (.cells #[.int .i64 c, .slice a n cap] 24))).alloc (Nat.le_refl _) (.cells #[.int .i64 0, .int .i64 0, .slice none 0 0, .slice none 0 0] 27)
    exact ⟨by rw [hb2.cell (p := ⟨w.heap.size, 0, none⟩) (by simp)]; simp, by rw [hb2.cell (p := ⟨w.heap.size, 1, none⟩) (by simp)]; simp⟩
  clear hb1 hs hl hn
  generalize gAt l n = g at HRE hlen hget hp
  generalize upI c g = u at HRE
  generalize redL g l = R at HRE hlen hget
  go_enter Tryd.func68, Tryd.ntmps68
  have n1 := fun W => Tryd.neNil W
  obtain ⟨l0, l1⟩ := L0.out
  go_wp2_with fail
  refine (HCK.out _ B0.out).mono ?_
  rintro e w2 ⟨rfl, hb2⟩
  have hz2 : w.heap.size + 1 < w2.heap.size := by have := hb2.size; simp at this; omega
  have B2 := Lib.hid (B0.out.trans (hb2.mono B0.out.size))
  have F2 := Lib.hid (F0.out.below hb2 (by simp))
  have d0 : w2.cell? ⟨w.heap.size, 0, none⟩ = some (.int .i64 c) := (hb2.cell (p := ⟨w.heap.size, 0, none⟩) (by simp; omega)).trans l0
  have d1 : w2.cell? ⟨w.heap.size, 1, none⟩ = some (.slice a n cap) := (hb2.cell (p := ⟨w.heap.size, 1, none⟩) (by simp; omega)).trans l1
  have en : ((n : Int) == 0) = false := by rw [len0]; exact decide_eq_false (by omega)
  clear hb2 l0 l1
  go_wp2_with fail
  refine (HRE.out _ B2.out).mono ?_
  rintro e w3 ⟨v3, rfl, hrow3, hb3⟩
  obtain ⟨a3, cap3, rfl, hlies3, _⟩ := hrow3.lies
  rw [hlen] at hrow3
  obtain ⟨b3, off3, ea, hbl3, g1, g2⟩ := hlies3 0 (by omega)
  rw [hget] at g2
  simp only [Nat.zero_mul, Nat.add_zero] at g1 g2
  subst ea
  have hw3 : w2.heap.size ≤ w3.heap.size := hb3.size
  have hba : Below w3.heap.size w3 (w3.alloc (.cells #[.int .i64 u, .slice (some ⟨b3, off3, none⟩) n cap3] 24)) := (Below.refl _ w3).alloc (Nat.le_refl _) _
  have g2a : (w3.alloc (.cells #[.int .i64 u, .slice (some ⟨b3, off3, none⟩) n cap3] 24)).cell? ⟨b3, off3 + 1, none⟩ = some (.int .i64 ((l.getD 0 (0, 0)).2.tdiv g)) := (hba.cell (p := ⟨b3, off3 + 1, none⟩) hbl3).trans g2
  have R3 : Hid (Row w.heap.size R (.slice (some ⟨b3, off3, none⟩) n cap3) (w3.alloc (.cells #[.int .i64 u, .slice (some ⟨b3, off3, none⟩) n cap3] 24))) := (Row.alloc hrow3 _).monoG B2.out.size
  have RO : Hid ((Value.slice (some ⟨b3, off3, none⟩) n cap3).ownBlock ≠ some (w.heap.size + 1)) := fun e => by
    have := (World.ownsRow.lt hrow3 _ e).1; omega
  have B3 := Lib.hid ((B2.out.trans (hb3.mono B2.out.size)).alloc (Nat.le_trans B2.out.size hw3) (.cells #[.int .i64 u, .slice (some ⟨b3, off3, none⟩) n cap3] 24))
  have F3 := Lib.hid ((F2.out.below hb3 hz2).below hba (Nat.lt_of_lt_of_le hz2 hw3))
  clear hrow3 hlies3 g1 g2 hb3 hba d0 d1
  rw [hlen]
  generalize (l.getD 0 (0, 0)).2.tdiv g = K at g2a hp
  obtain ⟨r0, r1, r2, r3, rf⟩ := F3.out
  go_wp2_with fail
  clear r0 r1 r2 r3 rf g2a
  refine bodyPost_ret (v := .tuple #[.agg #[.int .i64 2, .int .i64 u, .slice (some ⟨b3, off3, none⟩) n cap3, .slice none 0 0], .nilIface]) ?_ rfl ⟨_, rfl, R3.out.set4 (w.heap.size + 1) RO.out _ _ _ _, below4 B3.out (Nat.le_succ _) _ _ _ _⟩
  obtain ⟨e0, e1, e2, e3⟩ := res4 F3.out (.int .i64 2) (.int .i64 u) (.slice (some ⟨b3, off3, none⟩) n cap3) (.slice none 0 0)
  simp [results, Tryd.results68, go_sem, e0, e1, e2, e3]

theorem ex_snd : snd 3 [(0, 2)] = true := by decide
theorem ex_gcd : gAt [(0, 2)] 1 = 2 := by decide
theorem ex_up : upI 3 2 = 2 := by decide
theorem ex_red : redL 2 [(0, 2)] = [(0, 1)] := by decide
theorem ex_is : isF 1 (.mk 2 2 [(0, 1)] []) = true := by decide
theorem flies_leaf (B : Nat) (w : World) (k c : Int) (t : List (Int × Int)) (ta : Option Addr) (tcap : Nat) (ht : t.length ≤ 9223372036854775807) (h : Lies B w ta t) : FLies B w 1 (.mk k c t []) [.int .i64 k, .int .i64 c, .slice ta t.length tcap, .slice none 0 0] :=
  ⟨ta, tcap, none, 0, rfl, h, ht, by simp [FT.ks], fun i hi => absurd hi (by simp [FT.ks])⟩
theorem lies_one (B : Nat) (w : World) (b : Nat) (v k : Int) (hb : b < B) (h0 : w.cell? ⟨b, 0, none⟩ = some (.int .i64 v)) (h1 : w.cell? ⟨b, 1, none⟩ = some (.int .i64 k)) : Lies B w (some ⟨b, 0, none⟩) [(v, k)] := fun i hi => by
  have : i = 0 := by simpa using hi
  subst this
  exact ⟨b, 0, rfl, hb, by simpa using h0, by simpa using h1⟩

end Go.Proofs.YtelndcmfddbgiaaDoor

namespace Go.Proofs.YtelndcmfddbgiaaDoor
open Go.RowKit

def LiesQ (S : Nat → Prop) (w : World) (a : Option Addr) (l : List (Int × Int)) : Prop :=
  ∀ i, i < l.length → ∃ b off, a = some ⟨b, off, none⟩ ∧ S b ∧ w.cell? ⟨b, off + i * 2, none⟩ = some (.int .i64 (l.getD i (0, 0)).1) ∧ w.cell? ⟨b, off + i * 2 + 1, none⟩ = some (.int .i64 (l.getD i (0, 0)).2)
/-- A formula lies in memory, in blocks of a kind. -/
def FLiesQ (S : Nat → Prop) (w : World) : Nat → FT → List Value → Prop
  | 0, _, _ => False
  | n + 1, f, cs => ∃ (ta : Option Addr) (tcap : Nat) (ka : Option Addr) (kcap : Nat), cs = [.int .i64 f.kind, .int .i64 f.c, .slice ta f.t.length tcap, .slice ka f.ks.length kcap] ∧
      LiesQ S w ta f.t ∧ f.t.length ≤ 9223372036854775807 ∧ f.ks.length ≤ 9223372036854775807 ∧
      ∀ i, i < f.ks.length → ∃ b off c0 c1 c2 c3, ka = some ⟨b, off, none⟩ ∧ S b ∧ w.cell? ⟨b, off + i * 4, none⟩ = some c0 ∧ w.cell? ⟨b, off + i * 4 + 1, none⟩ = some c1 ∧ w.cell? ⟨b, off + i * 4 + 2, none⟩ = some c2 ∧ w.cell? ⟨b, off + i * 4 + 3, none⟩ = some c3 ∧
        FLiesQ S w n (f.ks.getD i default) [c0, c1, c2, c3]
theorem LiesQ.lies {S : Nat → Prop} {w : World} {B : Nat} {a : Option Addr} {l : List (Int × Int)} (hS : ∀ b, S b → b < B) (h : LiesQ S w a l) : Lies B w a l := fun i hi => by
  obtain ⟨b, off, e, hb, r⟩ := h i hi
  exact ⟨b, off, e, hS b hb, r⟩
theorem FLiesQ.lies {S : Nat → Prop} {w : World} {B : Nat} (hS : ∀ b, S b → b < B) : ∀ {n : Nat} {f : FT} {cs : List Value}, FLiesQ S w n f cs → FLies B w n f cs
  | 0, _, _, h => h
  | n + 1, f, cs, ⟨ta, tcap, ka, kcap, h1, h2, h3, h4, h5⟩ => ⟨ta, tcap, ka, kcap, h1, h2.lies hS, h3, h4, fun i hi => by
    obtain ⟨b, off, c0, c1, c2, c3, e, hb, g0, g1, g2, g3, hf⟩ := h5 i hi
    exact ⟨b, off, c0, c1, c2, c3, e, hS b hb, g0, g1, g2, g3, hf.lies hS⟩⟩
theorem LiesQ.keep {S S' : Nat → Prop} {w w' : World} {a : Option Addr} {l : List (Int × Int)} (hS : ∀ b, S b → S' b) (hk : ∀ b o, S b → w'.cell? ⟨b, o, none⟩ = w.cell? ⟨b, o, none⟩) (h : LiesQ S w a l) : LiesQ S' w' a l := fun i hi => by
  obtain ⟨b, off, e, hb, r1, r2⟩ := h i hi
  exact ⟨b, off, e, hS b hb, (hk _ _ hb).trans r1, (hk _ _ hb).trans r2⟩
theorem FLiesQ.keep {S S' : Nat → Prop} {w w' : World} (hS : ∀ b, S b → S' b) (hk : ∀ b o, S b → w'.cell? ⟨b, o, none⟩ = w.cell? ⟨b, o, none⟩) : ∀ {n : Nat} {f : FT} {cs : List Value}, FLiesQ S w n f cs → FLiesQ S' w' n f cs
  | 0, _, _, h => h
  | n + 1, f, cs, ⟨ta, tcap, ka, kcap, h1, h2, h3, h4, h5⟩ => ⟨ta, tcap, ka, kcap, h1, h2.keep hS hk, h3, h4, fun i hi => by
    obtain ⟨b, off, c0, c1, c2, c3, e, hb, g0, g1, g2, g3, hf⟩ := h5 i hi
    exact ⟨b, off, c0, c1, c2, c3, e, hS b hb, (hk _ _ hb).trans g0, (hk _ _ hb).trans g1, (hk _ _ hb).trans g2, (hk _ _ hb).trans g3, hf.keep hS hk⟩⟩
theorem FLiesQ.four {S : Nat → Prop} {w : World} : ∀ {n : Nat} {f : FT} {cs : List Value}, FLiesQ S w n f cs → ∃ c0 c1 c2 c3, cs = [c0, c1, c2, c3]
  | 0, _, _, h => h.elim
  | _ + 1, _, _, ⟨_, _, _, _, h1, _⟩ => ⟨_, _, _, _, h1⟩

/-- Cells, four by four. -/
theorem flat4_len : ∀ (css : List (List Value)), (∀ c ∈ css, c.length = 4) → css.flatten.length = css.length * 4
  | [], _ => rfl
  | c :: r, h => by
    have h1 := h c (by simp)
    have h2 := flat4_len r (fun x hx => h x (by simp [hx]))
    simp only [List.flatten_cons, List.length_append, List.length_cons, h1, h2]
    omega
theorem flat4_get : ∀ (css : List (List Value)), (∀ c ∈ css, c.length = 4) → ∀ i j, i < css.length → j < 4 → css.flatten[i * 4 + j]? = (css.getD i [])[j]?
  | [], _, i, _, hi, _ => absurd hi (Nat.not_lt_zero i)
  | c :: r, h, 0, j, _, hj => by
    have h1 := h c (by simp)
    rw [List.flatten_cons, Nat.zero_mul, Nat.zero_add, List.getElem?_append_left (by omega)]
    rfl
  | c :: r, h, i + 1, j, hi, hj => by
    have h1 := h c (by simp)
    rw [List.flatten_cons, List.getElem?_append_right (by omega), show (i + 1) * 4 + j - c.length = i * 4 + j by omega, flat4_get r (fun x hx => h x (by simp [hx])) i j (by simpa using hi) hj]
    rfl
end Go.Proofs.YtelndcmfddbgiaaDoor

namespace Go.Proofs.YtelndcmfddbgiaaDoor
open Go.RowKit

/-- What a literal's function answers: a formula, and what is amiss. -/
def LitEnd (B : Nat) (f : FT) (x : Value) (w : World) (e : Ending) (w' : World) : Prop := ∃ cs, e = .returned (.tuple #[.agg cs.toArray, x]) ∧ FLiesQ (fun b => B ≤ b ∧ b < w'.heap.size) w' 2 f cs ∧ Below B w w'
theorem flies_flat {S : Nat → Prop} {w : World} {k c : Int} : FLiesQ S w 2 (.mk k c [] []) [.int .i64 k, .int .i64 c, .slice none 0 0, .slice none 0 0] :=
  ⟨none, 0, none, 0, rfl, fun i hi => absurd hi (Nat.not_lt_zero i), by simp [FT.t], by simp [FT.ks], fun i hi => absurd hi (by simp [FT.ks])⟩

theorem Row.liesQ {B : Nat} {l : List (Int × Int)} {v : Value} {w : World} (h : Row B l v w) : ∃ a cap, v = .slice a l.length cap ∧ LiesQ (fun b => B ≤ b ∧ b < w.heap.size) w a l := by
  obtain ⟨a, cap, rfl, hl, _⟩ := h.lies
  refine ⟨a, cap, rfl, fun i hi => ?_⟩
  obtain ⟨b, off, rfl, hb, g0, g1⟩ := hl i hi
  exact ⟨b, off, rfl, ⟨(World.ownsRow.lt h b rfl).1, hb⟩, g0, g1⟩
theorem flies_leafS {S : Nat → Prop} {w : World} {n : Nat} {k c : Int} {t : List (Int × Int)} {ta : Option Addr} {tcap : Nat} (ht : t.length ≤ 9223372036854775807) (h : LiesQ S w ta t) : FLiesQ S w (n + 1) (.mk k c t []) [.int .i64 k, .int .i64 c, .slice ta t.length tcap, .slice none 0 0] :=
  ⟨ta, tcap, none, 0, rfl, h, ht, by simp [FT.ks], fun i hi => absurd hi (by simp [FT.ks])⟩

set_option maxHeartbeats 1000000 in
theorem literal_bad (c : Int) (a : Option Addr) (n cap : Nat) (l : List (Int × Int)) (w : World) (hn : l.length = n) (hm : n ≤ 9223372036854775807) (hl : Lies w.heap.size w a l) (hs : snd c l = false) :
    Calls Tryd.prog 68 #[.agg #[.int .i64 c, .slice a n cap]] w (LitEnd w.heap.size (.mk 0 0 [] []) (.iface 43 (.int .i64 5)) w) := by
  have HCK := Lib.hid (fun W (hb : Below w.heap.size w W) => check_no c a n cap l W hn hm ((hl.below hb).mono hb.size) hs)
  have hb1 : Below w.heap.size w (w.alloc (.cells #[.int .i64 c, .slice a n cap] 24)) := (Below.refl _ w).alloc (Nat.le_refl _) _
  have B0 : Hid (Below w.heap.size w ((w.alloc (.cells #[.int .i64 c, .slice a n cap] 24)).alloc (.cells #[.int .i64 0, .int .i64 0, .slice none 0 0, .slice none 0 0] 27))) := hb1.alloc hb1.size _
  have F0 := Lib.hid (fb_new (w.alloc (.cells #[.int .i64 c, .slice a n cap] 24)) (w.heap.size + 1) (by simp))
  have hb2 := (Below.refl (w.alloc (.cells #[.int .i64 c, .slice a n cap] 24)).heap.size (w.alloc (.cells #[.int .i64 c, .slice a n cap] 24))).alloc (Nat.le_refl _) (.cells #[.int .i64 0, .int .i64 0, .slice none 0 0, .slice none 0 0] 27)
  have l0 : ((w.alloc (.cells #[.int .i64 c, .slice a n cap] 24)).alloc (.cells #[.int .i64 0, .int .i64 0, .slice none 0 0, .slice none 0 0] 27)).cell? ⟨w.heap.size, 0, none⟩ = some (.int .i64 c) := by rw [hb2.cell (p := ⟨w.heap.size, 0, none⟩) (by simp)]; simp
  have l1 : ((w.alloc (.cells #[.int .i64 c, .slice a n cap] 24)).alloc (.cells #[.int .i64 0, .int .i64 0, .slice none 0 0, .slice none 0 0] 27)).cell? ⟨w.heap.size, 1, none⟩ = some (.slice a n cap) := by rw [hb2.cell (p := ⟨w.heap.size, 1, none⟩) (by simp)]; simp
  clear hb1 hb2 hs hl hn
  go_enter Tryd.func68, Tryd.ntmps68
  have n1 := fun W => Tryd.neCode 5 W
  go_wp2_with fail
  refine (HCK.out _ B0.out).mono ?_
  rintro e w2 ⟨rfl, hb2⟩
  have B2 := Lib.hid (B0.out.trans (hb2.mono B0.out.size))
  have F2 := Lib.hid (F0.out.below hb2 (by simp))
  clear hb2 l0 l1
  obtain ⟨r0, r1, r2, r3, rf⟩ := F2.out
  go_wp2_with fail
  clear r0 r1 r2 r3 rf
  refine bodyPost_ret (v := .tuple #[.agg #[.int .i64 0, .int .i64 0, .slice none 0 0, .slice none 0 0], .iface 43 (.int .i64 5)]) ?_ rfl ⟨_, rfl, flies_flat, below4 B2.out (Nat.le_succ _) _ _ _ _⟩
  obtain ⟨e0, e1, e2, e3⟩ := res4 F2.out (.int .i64 0) (.int .i64 0) (.slice none 0 0) (.slice none 0 0)
  simp [results, Tryd.results68, go_sem, e0, e1, e2, e3]

set_option maxHeartbeats 1000000 in
theorem literal_none (c : Int) (a : Option Addr) (cap : Nat) (w : World) (hs : snd c [] = true) (k : Int) (hk : k = if c ≤ 0 then 0 else 1) :
    Calls Tryd.prog 68 #[.agg #[.int .i64 c, .slice a 0 cap]] w (LitEnd w.heap.size (.mk k 0 [] []) .nilIface w) := by
  have HCK := Lib.hid (fun W (hb : Below w.heap.size w W) => check_yes c a 0 cap [] W rfl (fun i hi => absurd hi (Nat.not_lt_zero i)) hs)
  have hb1 : Below w.heap.size w (w.alloc (.cells #[.int .i64 c, .slice a 0 cap] 24)) := (Below.refl _ w).alloc (Nat.le_refl _) _
  have B0 : Hid (Below w.heap.size w ((w.alloc (.cells #[.int .i64 c, .slice a 0 cap] 24)).alloc (.cells #[.int .i64 0, .int .i64 0, .slice none 0 0, .slice none 0 0] 27))) := hb1.alloc hb1.size _
  have F0 := Lib.hid (fb_new (w.alloc (.cells #[.int .i64 c, .slice a 0 cap] 24)) (w.heap.size + 1) (by simp))
  have hb2 := (Below.refl (w.alloc (.cells #[.int .i64 c, .slice a 0 cap] 24)).heap.size (w.alloc (.cells #[.int .i64 c, .slice a 0 cap] 24))).alloc (Nat.le_refl _) (.cells #[.int .i64 0, .int .i64 0, .slice none 0 0, .slice none 0 0] 27)
  have l0 : ((w.alloc (.cells #[.int .i64 c, .slice a 0 cap] 24)).alloc (.cells #[.int .i64 0, .int .i64 0, .slice none 0 0, .slice none 0 0] 27)).cell? ⟨w.heap.size, 0, none⟩ = some (.int .i64 c) := by rw [hb2.cell (p := ⟨w.heap.size, 0, none⟩) (by simp)]; simp
  have l1 : ((w.alloc (.cells #[.int .i64 c, .slice a 0 cap] 24)).alloc (.cells #[.int .i64 0, .int .i64 0, .slice none 0 0, .slice none 0 0] 27)).cell? ⟨w.heap.size, 1, none⟩ = some (.slice a 0 cap) := by rw [hb2.cell (p := ⟨w.heap.size, 1, none⟩) (by simp)]; simp
  clear hb1 hb2 hs
  have n1 := fun W => Tryd.neNil W
  by_cases hc : c ≤ 0
  · rw [if_pos hc] at hk
    subst hk
    go_enter Tryd.func68, Tryd.ntmps68
    go_wp2_with fail
    refine (HCK.out _ B0.out).mono ?_
    rintro e w2 ⟨rfl, hb2⟩
    have B2 := Lib.hid (B0.out.trans (hb2.mono B0.out.size))
    have F2 := Lib.hid (F0.out.below hb2 (by simp))
    have d0 : w2.cell? ⟨w.heap.size, 0, none⟩ = some (.int .i64 c) := (hb2.cell (p := ⟨w.heap.size, 0, none⟩) (by simp; omega)).trans l0
    have d1 : w2.cell? ⟨w.heap.size, 1, none⟩ = some (.slice a 0 cap) := (hb2.cell (p := ⟨w.heap.size, 1, none⟩) (by simp; omega)).trans l1
    clear hb2 l0 l1
    obtain ⟨r0, r1, r2, r3, rf⟩ := F2.out
    go_wp2_with fail
    clear r0 r1 r2 r3 rf d0 d1
    refine bodyPost_ret (v := .tuple #[.agg #[.int .i64 0, .int .i64 0, .slice none 0 0, .slice none 0 0], .nilIface]) ?_ rfl ⟨_, rfl, flies_flat, below4 B2.out (Nat.le_succ _) _ _ _ _⟩
    obtain ⟨e0, e1, e2, e3⟩ := res4 F2.out (.int .i64 0) (.int .i64 0) (.slice none 0 0) (.slice none 0 0)
    simp [results, Tryd.results68, go_sem, e0, e1, e2, e3]
  · rw [if_neg hc] at hk
    subst hk
    go_enter Tryd.func68, Tryd.ntmps68
    go_wp2_with fail
    refine (HCK.out _ B0.out).mono ?_
    rintro e w2 ⟨rfl, hb2⟩
    have B2 := Lib.hid (B0.out.trans (hb2.mono B0.out.size))
    have F2 := Lib.hid (F0.out.below hb2 (by simp))
    have d0 : w2.cell? ⟨w.heap.size, 0, none⟩ = some (.int .i64 c) := (hb2.cell (p := ⟨w.heap.size, 0, none⟩) (by simp; omega)).trans l0
    have d1 : w2.cell? ⟨w.heap.size, 1, none⟩ = some (.slice a 0 cap) := (hb2.cell (p := ⟨w.heap.size, 1, none⟩) (by simp; omega)).trans l1
    clear hb2 l0 l1
    obtain ⟨r0, r1, r2, r3, rf⟩ := F2.out
    go_wp2_with fail
    clear r0 r1 r2 r3 rf d0 d1
    refine bodyPost_ret (v := .tuple #[.agg #[.int .i64 1, .int .i64 0, .slice none 0 0, .slice none 0 0], .nilIface]) ?_ rfl ⟨_, rfl, flies_flat, below4 B2.out (Nat.le_succ _) _ _ _ _⟩
    obtain ⟨e0, e1, e2, e3⟩ := res4 F2.out (.int .i64 1) (.int .i64 0) (.slice none 0 0) (.slice none 0 0)
    simp [results, Tryd.results68, go_sem, e0, e1, e2, e3]
end Go.Proofs.YtelndcmfddbgiaaDoor

namespace Go.Proofs
open Go.Shelf
def Tryd.sortMono_ren : Go.Shelf.Ren := ⟨fun | 6 => 86 | 15 => 96 | 14 => 95 | 28 => 111 | 29 => 99 | 20 => 103 | 21 => 104 | 22 => 105 | 23 => 106 | 24 => 107 | 25 => 108 | 26 => 109 | 27 => 110 | 46 => 114 | 47 => 115 | 48 => 116 | 49 => 117 | 50 => 118 | 57 => 119 | n => n, fun | 22 => 22 | 24 => 57 | 25 => 106 | 3 => 3 | 39 => 115 | 0 => 0 | 53 => 119 | 55 => 103 | 4 => 4 | 46 => 123 | 45 => 122 | 50 => 127 | 5 => 5 | 9 => 9 | 66 => 130 | 70 => 134 | 76 => 138 | 77 => 74 | n => n, fun | n => n⟩
theorem Tryd.sortMono : Go.Proofs.SlLaysF0.n6 Tryd.prog Tryd.sortMono_ren := {
  mixed := by kernel_rfl
  f6 := ⟨Tryd.f86.name, by decide, Tryd.func86.trans (congrArg some (by kernel_rfl))⟩
  f14 := ⟨Tryd.f95.name, by decide, Tryd.func95.trans (congrArg some (by kernel_rfl))⟩
  f15 := Tryd.func96.trans (congrArg some (by kernel_rfl))
  f20 := ⟨Tryd.f103.name, by decide, Tryd.func103.trans (congrArg some (by kernel_rfl))⟩
  f21 := ⟨Tryd.f104.name, by decide, Tryd.func104.trans (congrArg some (by kernel_rfl))⟩
  f22 := ⟨Tryd.f105.name, by decide, Tryd.func105.trans (congrArg some (by kernel_rfl))⟩
  f23 := ⟨Tryd.f106.name, by decide, Tryd.func106.trans (congrArg some (by kernel_rfl))⟩
  f24 := ⟨Tryd.f107.name, by decide, Tryd.func107.trans (congrArg some (by kernel_rfl))⟩
  f25 := ⟨Tryd.f108.name, by decide, Tryd.func108.trans (congrArg some (by kernel_rfl))⟩
  f26 := ⟨Tryd.f109.name, by decide, Tryd.func109.trans (congrArg some (by kernel_rfl))⟩
  f27 := ⟨Tryd.f110.name, by decide, Tryd.func110.trans (congrArg some (by kernel_rfl))⟩
  f28 := Tryd.func111.trans (congrArg some (by kernel_rfl))
  f29 := Tryd.func99.trans (congrArg some (by kernel_rfl))
  f46 := ⟨Tryd.f114.name, by decide, Tryd.func114.trans (congrArg some (by kernel_rfl))⟩
  f47 := Tryd.func115.trans (congrArg some (by kernel_rfl))
  f48 := Tryd.func116.trans (congrArg some (by kernel_rfl))
  f49 := ⟨Tryd.f117.name, by decide, Tryd.func117.trans (congrArg some (by kernel_rfl))⟩
  f50 := ⟨Tryd.f118.name, by decide, Tryd.func118.trans (congrArg some (by kernel_rfl))⟩
  f57 := ⟨Tryd.f119.name, by decide, Tryd.func119.trans (congrArg some (by kernel_rfl))⟩
  t0 := Tryd.underlying0
  a0 := Tryd.isAgg0
  z0 := Tryd.sizeOf0
  v0 := Tryd.zeroValue0
  t3 := Tryd.underlying3
  a3 := Tryd.isAgg3
  z3 := Tryd.sizeOf3
  v3 := Tryd.zeroValue3
  t4 := Tryd.underlying4
  a4 := Tryd.isAgg4
  z4 := Tryd.sizeOf4
  v4 := Tryd.zeroValue4
  t5 := Tryd.underlying5
  a5 := Tryd.isAgg5
  z5 := Tryd.sizeOf5
  v5 := Tryd.zeroValue5
  t9 := Tryd.underlying9
  a9 := Tryd.isAgg9
  z9 := Tryd.sizeOf9
  v9 := Tryd.zeroValue9
  t22 := Tryd.underlying22
  a22 := Tryd.isAgg22
  z22 := Tryd.sizeOf22
  v22 := Tryd.zeroValue22
  t25 := Tryd.underlying106
  a25 := Tryd.isAgg106
  z25 := Tryd.sizeOf106
  v25 := Tryd.zeroValue106
  t39 := Tryd.underlying115
  a39 := Tryd.isAgg115
  z39 := Tryd.sizeOf115
  v39 := Tryd.zeroValue115
  t45 := Tryd.underlying122
  a45 := Tryd.isAgg122
  z45 := Tryd.sizeOf122
  v45 := Tryd.zeroValue122
  t46 := Tryd.underlying123
  a46 := Tryd.isAgg123
  z46 := Tryd.sizeOf123
  v46 := Tryd.zeroValue123
  t50 := Tryd.underlying127
  a50 := Tryd.isAgg127
  z50 := Tryd.sizeOf127
  v50 := Tryd.zeroValue127
  t53 := Tryd.underlying119
  a53 := Tryd.isAgg119
  z53 := Tryd.sizeOf119
  v53 := Tryd.zeroValue119
  t55 := Tryd.underlying103
  a55 := Tryd.isAgg103
  z55 := Tryd.sizeOf103
  v55 := Tryd.zeroValue103
  t66 := Tryd.underlying130
  a66 := Tryd.isAgg130
  z66 := Tryd.sizeOf130
  v66 := Tryd.zeroValue130
  t70 := Tryd.underlying134
  a70 := Tryd.isAgg134
  z70 := Tryd.sizeOf134
  v70 := Tryd.zeroValue134
  t76 := Tryd.underlying138
  a76 := Tryd.isAgg138
  z76 := Tryd.sizeOf138
  v76 := Tryd.zeroValue138
  t77 := Tryd.underlying74
  a77 := Tryd.isAgg74
  z77 := Tryd.sizeOf74
  v77 := Tryd.zeroValue74 }
end Go.Proofs
