/- Formulas in blocks of a kind. -/
import Derived.Test.YtinineipfleoiaaFrmA
namespace Go.Proofs.Ytinineipfleoiaa
open Go.RowKit

def LiesS (S : Nat → Prop) (w : World) (a : Option Addr) (l : List (Int × Int)) : Prop :=
  ∀ i, i < l.length → ∃ b off, a = some ⟨b, off, none⟩ ∧ S b ∧ w.cell? ⟨b, off + i * 2, none⟩ = some (.int .i64 (l.getD i (0, 0)).1) ∧ w.cell? ⟨b, off + i * 2 + 1, none⟩ = some (.int .i64 (l.getD i (0, 0)).2)
/-- A formula lies in memory, in blocks of a kind. -/
def FLiesS (S : Nat → Prop) (w : World) : Nat → FT → List Value → Prop
  | 0, _, _ => False
  | n + 1, f, cs => ∃ (ta : Option Addr) (tcap : Nat) (ka : Option Addr) (kcap : Nat), cs = [.int .i64 f.kind, .int .i64 f.c, .slice ta f.t.length tcap, .slice ka f.ks.length kcap] ∧
      LiesS S w ta f.t ∧ f.t.length ≤ 9223372036854775807 ∧ f.ks.length ≤ 9223372036854775807 ∧
      ∀ i, i < f.ks.length → ∃ b off c0 c1 c2 c3, ka = some ⟨b, off, none⟩ ∧ S b ∧ w.cell? ⟨b, off + i * 4, none⟩ = some c0 ∧ w.cell? ⟨b, off + i * 4 + 1, none⟩ = some c1 ∧ w.cell? ⟨b, off + i * 4 + 2, none⟩ = some c2 ∧ w.cell? ⟨b, off + i * 4 + 3, none⟩ = some c3 ∧
        FLiesS S w n (f.ks.getD i default) [c0, c1, c2, c3]
theorem LiesS.lies {S : Nat → Prop} {w : World} {B : Nat} {a : Option Addr} {l : List (Int × Int)} (hS : ∀ b, S b → b < B) (h : LiesS S w a l) : Lies B w a l := fun i hi => by
  obtain ⟨b, off, e, hb, r⟩ := h i hi
  exact ⟨b, off, e, hS b hb, r⟩
theorem FLiesS.lies {S : Nat → Prop} {w : World} {B : Nat} (hS : ∀ b, S b → b < B) : ∀ {n : Nat} {f : FT} {cs : List Value}, FLiesS S w n f cs → FLies B w n f cs
  | 0, _, _, h => h
  | n + 1, f, cs, ⟨ta, tcap, ka, kcap, h1, h2, h3, h4, h5⟩ => ⟨ta, tcap, ka, kcap, h1, h2.lies hS, h3, h4, fun i hi => by
    obtain ⟨b, off, c0, c1, c2, c3, e, hb, g0, g1, g2, g3, hf⟩ := h5 i hi
    exact ⟨b, off, c0, c1, c2, c3, e, hS b hb, g0, g1, g2, g3, hf.lies hS⟩⟩
theorem LiesS.keep {S S' : Nat → Prop} {w w' : World} {a : Option Addr} {l : List (Int × Int)} (hS : ∀ b, S b → S' b) (hk : ∀ b o, S b → w'.cell? ⟨b, o, none⟩ = w.cell? ⟨b, o, none⟩) (h : LiesS S w a l) : LiesS S' w' a l := fun i hi => by
  obtain ⟨b, off, e, hb, r1, r2⟩ := h i hi
  exact ⟨b, off, e, hS b hb, (hk _ _ hb).trans r1, (hk _ _ hb).trans r2⟩
theorem FLiesS.keep {S S' : Nat → Prop} {w w' : World} (hS : ∀ b, S b → S' b) (hk : ∀ b o, S b → w'.cell? ⟨b, o, none⟩ = w.cell? ⟨b, o, none⟩) : ∀ {n : Nat} {f : FT} {cs : List Value}, FLiesS S w n f cs → FLiesS S' w' n f cs
  | 0, _, _, h => h
  | n + 1, f, cs, ⟨ta, tcap, ka, kcap, h1, h2, h3, h4, h5⟩ => ⟨ta, tcap, ka, kcap, h1, h2.keep hS hk, h3, h4, fun i hi => by
    obtain ⟨b, off, c0, c1, c2, c3, e, hb, g0, g1, g2, g3, hf⟩ := h5 i hi
    exact ⟨b, off, c0, c1, c2, c3, e, hS b hb, (hk _ _ hb).trans g0, (hk _ _ hb).trans g1, (hk _ _ hb).trans g2, (hk _ _ hb).trans g3, hf.keep hS hk⟩⟩
theorem FLiesS.four {S : Nat → Prop} {w : World} : ∀ {n : Nat} {f : FT} {cs : List Value}, FLiesS S w n f cs → ∃ c0 c1 c2 c3, cs = [c0, c1, c2, c3]
  | 0, _, _, h => h.elim
  | _ + 1, _, _, ⟨_, _, _, _, h1, _⟩ => ⟨_, _, _, _, h1⟩

/-- Cells, four by four. -/
theorem flat4_len : ∀ (css : List (List Value)), (∀ c ∈ css, c.length = 4) → css.flatten.length = css.length * 4
  | [], _ => rfl
  | c :: r, h => by
    have h1 := h c (by simp)
    have h2 := flat4_len r (fun x hx => h x (by simp [hx]))
    simp only [List.flatten_cons, List.length_append, List.length_cons, h1, h2]
    omega
theorem flat4_get : ∀ (css : List (List Value)), (∀ c ∈ css, c.length = 4) → ∀ i j, i < css.length → j < 4 → css.flatten[i * 4 + j]? = (css.getD i [])[j]?
  | [], _, i, _, hi, _ => absurd hi (Nat.not_lt_zero i)
  | c :: r, h, 0, j, _, hj => by
    have h1 := h c (by simp)
    rw [List.flatten_cons, Nat.zero_mul, Nat.zero_add, List.getElem?_append_left (by omega)]
    rfl
  | c :: r, h, i + 1, j, hi, hj => by
    have h1 := h c (by simp)
    rw [List.flatten_cons, List.getElem?_append_right (by omega), show (i + 1) * 4 + j - c.length = i * 4 + j by omega, flat4_get r (fun x hx => h x (by simp [hx])) i j (by simpa using hi) hj]
    rfl
end Go.Proofs.Ytinineipfleoiaa
