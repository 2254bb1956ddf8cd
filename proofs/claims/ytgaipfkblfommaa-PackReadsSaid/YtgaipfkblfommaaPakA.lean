/- Shapes of values in rows: rows that lie, rows of the call's own. -/
import Derived.WalkKit
import Derived.Below
import Derived.Lib.Hide
import Derived.Deep.AppendLies
import Derived.Lib.Varint
import Derived.Lib.VarintMem
import Derived.Test.YtgaipfkblfommaaChecked
set_option linter.unusedVariables false
set_option linter.unusedSimpArgs false
namespace Go.Proofs.Ytgaipfkblfommaa
set_option maxRecDepth 100000
open Go.RowKit

/-- How a thing of T stands in cells. -/
structure Sh (T : Type) where
  k : Nat
  rel : (Nat → Prop) → World → List Value → T → Prop
  len : ∀ {S w cs x}, rel S w cs x → cs.length = k
  one : ∀ {S w cs x}, rel S w cs x → ∀ u ∈ cs, u.oneCell' = true
  keep : ∀ {S S' : Nat → Prop} {w w' : World} {cs : List Value} {x : T}, (∀ b, S b → S' b) → (∀ b o, S b → w'.cell? ⟨b, o, none⟩ = w.cell? ⟨b, o, none⟩) → rel S w cs x → rel S' w' cs x
section
variable {T : Type}
/-- A row of such things lies in blocks of S. -/
def Sits (sh : Sh T) (S : Nat → Prop) (w : World) (a : Option Addr) (xs : List T) : Prop :=
  xs.length ≤ 9223372036854775807 ∧ ∀ i (h : i < xs.length), ∃ b off cs, a = some ⟨b, off, none⟩ ∧ S b ∧ (∀ j u, cs[j]? = some u → w.cell? ⟨b, off + i * sh.k + j, none⟩ = some u) ∧ sh.rel S w cs xs[i]
theorem Sits.keep {sh : Sh T} {S S' : Nat → Prop} {w w' : World} {a : Option Addr} {xs : List T} (hS : ∀ b, S b → S' b) (hk : ∀ b o, S b → w'.cell? ⟨b, o, none⟩ = w.cell? ⟨b, o, none⟩) (h : Sits sh S w a xs) : Sits sh S' w' a xs :=
  ⟨h.1, fun i hi => by
    obtain ⟨b, off, cs, e, hb, h1, h2⟩ := h.2 i hi
    exact ⟨b, off, cs, e, hS b hb, fun j u hu => (hk _ _ hb).trans (h1 j u hu), sh.keep hS hk h2⟩⟩
theorem Sits.nil (sh : Sh T) (S : Nat → Prop) (w : World) (a : Option Addr) : Sits sh S w a [] := ⟨Nat.zero_le _, fun i hi => absurd hi (Nat.not_lt_zero i)⟩
/-- Below a bound. -/
abbrev Lo (B : Nat) : Nat → Prop := fun b => b < B
theorem Sits.below {sh : Sh T} {B B' : Nat} {w w' : World} {a : Option Addr} {xs : List T} (h : Sits sh (Lo B) w a xs) (hb : Below B w w') (hB : B ≤ B') : Sits sh (Lo B') w' a xs :=
  h.keep (fun b (hb : b < B) => Nat.lt_of_lt_of_le hb hB) (fun b o hb2 => hb.cell (p := ⟨b, o, none⟩) hb2)
theorem Sits.up {sh : Sh T} {B : Nat} {w w' : World} {a : Option Addr} {xs : List T} (h : Sits sh (Lo B) w a xs) (hb : Below B w w') : Sits sh (Lo B) w' a xs := h.below hb (Nat.le_refl _)
/-- A slice in a cell. -/
def Slot (sh : Sh T) (S : Nat → Prop) (w : World) (v : Value) (xs : List T) : Prop := ∃ a cap, v = .slice a xs.length cap ∧ Sits sh S w a xs
theorem Slot.keep {sh : Sh T} {S S' : Nat → Prop} {w w' : World} {v : Value} {xs : List T} (hS : ∀ b, S b → S' b) (hk : ∀ b o, S b → w'.cell? ⟨b, o, none⟩ = w.cell? ⟨b, o, none⟩) (h : Slot sh S w v xs) : Slot sh S' w' v xs := by
  obtain ⟨a, cap, e, h1⟩ := h
  exact ⟨a, cap, e, h1.keep hS hk⟩
theorem Slot.one {sh : Sh T} {S : Nat → Prop} {w : World} {v : Value} {xs : List T} (h : Slot sh S w v xs) : v.oneCell' = true := by
  obtain ⟨a, cap, rfl, _⟩ := h
  rfl
/-- A row of the call's own, of such things. -/
structure Own (sh : Sh T) (e : TypeId) (B : Nat) (xs : List T) (v : Value) (w : World) : Prop where
  row : ∃ css : List (List Value), css.length = xs.length ∧ w.ownsRow B e sh.k v xs.length css.flatten ∧ ∀ i (h : i < xs.length) (h2 : i < css.length), sh.rel (fun b => B ≤ b ∧ b < w.heap.size ∧ v.ownBlock ≠ some b) w css[i] xs[i]
theorem Own.nil (sh : Sh T) (e : TypeId) (B : Nat) (w : World) : Own sh e B [] (.slice none 0 0) w := ⟨⟨[], rfl, World.ownsRow_nil _ _ _ _, fun i hi => absurd hi (Nat.not_lt_zero i)⟩⟩
theorem Own.below {sh : Sh T} {e : TypeId} {B : Nat} {xs : List T} {v : Value} {w w' : World} (h : Own sh e B xs v w) (hb : Below w.heap.size w w') : Own sh e B xs v w' := by
  obtain ⟨css, h1, h2, h3⟩ := h.row
  exact ⟨⟨css, h1, World.ownsRow.kept (row := none) h2 ⟨hb.os, hb.tape, hb.output, hb.size, fun q hq _ => hb.block q hq⟩ (by cases v.ownBlock <;> simp), fun i hi hi2 => sh.keep (fun b ⟨a1, a2, a3⟩ => ⟨a1, Nat.lt_of_lt_of_le a2 hb.size, a3⟩) (fun b o ⟨_, a2, _⟩ => hb.cell (p := ⟨b, o, none⟩) a2) (h3 i hi hi2)⟩⟩
theorem flatten_len {k : Nat} : ∀ {css : List (List Value)}, (∀ cs ∈ css, cs.length = k) → css.flatten.length = css.length * k
  | [], _ => by simp
  | c :: css, h => by
    have := flatten_len (css := css) (fun cs hc => h cs (List.mem_cons_of_mem _ hc))
    rw [List.flatten_cons, List.length_append, this, h c List.mem_cons_self, List.length_cons, Nat.succ_mul]
    omega
theorem flatten_get {k : Nat} : ∀ {css : List (List Value)}, (∀ cs ∈ css, cs.length = k) → ∀ (i j : Nat) (hi : i < css.length), j < k → css.flatten[i * k + j]? = css[i][j]?
  | [], _, i, j, hi, _ => absurd hi (Nat.not_lt_zero i)
  | c :: css, h, 0, j, _, hj => by
    rw [List.flatten_cons, Nat.zero_mul, Nat.zero_add, List.getElem?_append_left (by rw [h c List.mem_cons_self]; exact hj)]
    rfl
  | c :: css, h, i + 1, j, hi, hj => by
    have := flatten_get (css := css) (fun cs hc => h cs (List.mem_cons_of_mem _ hc)) i j (by simpa using hi) hj
    rw [List.flatten_cons, List.getElem?_append_right (by rw [h c List.mem_cons_self, Nat.succ_mul]; omega), h c List.mem_cons_self, show (i + 1) * k + j - k = i * k + j by rw [Nat.succ_mul]; omega, this]
    rfl
/-- What an own row says. -/
theorem Own.sits {sh : Sh T} {e : TypeId} {B : Nat} {xs : List T} {v : Value} {w : World} (h : Own sh e B xs v w) (hm : xs.length ≤ 9223372036854775807) : Slot sh (fun b => B ≤ b ∧ b < w.heap.size) w v xs := by
  obtain ⟨css, h1, h2, h3⟩ := h.row
  have hk : ∀ cs ∈ css, cs.length = sh.k := fun cs hc => by
    obtain ⟨i, hi, rfl⟩ := List.getElem_of_mem hc
    exact sh.len (h3 i (by omega) hi)
  have hc := fun g => World.ownsRow.cells h2 (g := g)
  have hlt := World.ownsRow.lt h2
  obtain ⟨_, ⟨rfl, h0⟩ | ⟨g, cap, cur, rfl, _⟩⟩ := h2
  · exact ⟨none, 0, by rw [h0], hm, fun i hi => by omega⟩
  · refine ⟨some ⟨g, 0, none⟩, cap, rfl, hm, fun i hi => ⟨g, 0, css[i]'(by omega), rfl, hlt g rfl, fun j u hu => ?_, sh.keep (fun b ⟨a1, a2, _⟩ => ⟨a1, a2⟩) (fun b o _ => rfl) (h3 i hi (by omega))⟩⟩
    have hj : j < sh.k := by
      have := (List.getElem?_eq_some_iff.1 hu).1
      rwa [hk _ (List.getElem_mem _)] at this
    have := hc g rfl (i * sh.k + j) u (by rw [flatten_get hk i j (by omega) hj]; exact hu)
    rwa [show (⟨g, 0, none⟩ : Addr).add (i * sh.k + j) = ⟨g, 0 + i * sh.k + j, none⟩ by unfold Addr.add; split <;> simp_all] at this
/-- One more behind an own row: what the append's law gives. -/
theorem Own.step {sh : Sh T} {e : TypeId} {B : Nat} {xs : List T} {x : T} {v v6 : Value} {w w5 w6 : World} {g H : Nat} {cs : List Value} (h : Own sh e B xs v w) (hb5 : Below w.heap.size w w5) (hB : B ≤ w.heap.size) (hx : sh.rel (fun b => w.heap.size ≤ b ∧ b < w5.heap.size) w5 cs x) (hg : w5.grownBy w6 v.ownBlock) (hH : w5.heap.size ≤ H)
    (hv : v6.ownBlock = some g) (hat : v.ownBlock = some g ∨ g = H) (hr : ∀ zs, w5.ownsRow B e sh.k v xs.length zs → w6.ownsRow B e sh.k v6 (xs.length + 1) (zs ++ cs)) : Own sh e B (xs ++ [x]) v6 w6 := by
  obtain ⟨css, h1, h2, h3⟩ := h.row
  have hvb : ∀ b, v.ownBlock = some b → b < w.heap.size := fun b e => (World.ownsRow.lt h2 b e).2
  have hk : ∀ b o, b < w5.heap.size → v.ownBlock ≠ some b → w6.cell? ⟨b, o, none⟩ = w5.cell? ⟨b, o, none⟩ := fun b o hb hne => World.cell?_of_block (hg.block b hb (fun e => hne e.symm))
  have hne6 : ∀ b, b < w5.heap.size → v.ownBlock ≠ some b → v6.ownBlock ≠ some b := fun b hb hne e => by
    rw [hv] at e
    rcases hat with hat | hat
    · exact hne (hat.trans e)
    · injection e with e; omega
  have h25 : w5.ownsRow B e sh.k v xs.length css.flatten := World.ownsRow.kept (row := none) h2 ⟨hb5.os, hb5.tape, hb5.output, hb5.size, fun q hq _ => hb5.block q hq⟩ (by cases v.ownBlock <;> simp)
  refine ⟨⟨css ++ [cs], by simp [h1], ?_, fun i hi hi2 => ?_⟩⟩
  · rw [List.length_append, List.flatten_append]
    simpa using hr _ h25
  · by_cases hlt : i < xs.length
    · rw [List.getElem_append_left hlt, List.getElem_append_left (by omega)]
      refine sh.keep (fun b ⟨a1, a2, a3⟩ => ?_) (fun b o ⟨a1, a2, a3⟩ => ?_) (h3 i hlt (by omega))
      · have h5 := Nat.lt_of_lt_of_le a2 hb5.size
        exact ⟨a1, Nat.lt_of_lt_of_le h5 hg.size, hne6 b h5 a3⟩
      · exact (hk b o (Nat.lt_of_lt_of_le a2 hb5.size) a3).trans (hb5.cell (p := ⟨b, o, none⟩) a2)
    · have hi' : i = xs.length := by simp at hi; omega
      subst hi'
      simp only [List.getElem_concat_length]
      have e2 : (css ++ [cs])[xs.length]'hi2 = cs := by
        simp only [← h1, List.getElem_concat_length]
      rw [e2]
      refine sh.keep (fun b ⟨a1, a2⟩ => ?_) (fun b o ⟨a1, a2⟩ => ?_) hx
      · have hne : v.ownBlock ≠ some b := fun e => by have := hvb b e; omega
        exact ⟨by omega, Nat.lt_of_lt_of_le a2 hg.size, hne6 b a2 hne⟩
      · exact hk b o a2 (fun e => by have := hvb b e; omega)
end
/-! The shapes of a witness. -/
def intSh : Sh Int where
  k := 1
  rel := fun _ _ cs x => cs = [.int .i64 x] ∧ (-9223372036854775808 ≤ x ∧ x ≤ 9223372036854775807)
  len := fun h => by rw [h.1]; rfl
  one := fun h u hu => by rw [h.1] at hu; simp at hu; rw [hu]; rfl
  keep := fun _ _ h => h
structure Part where
  line : Int
  times : Int
structure Step where
  parts : List Part
  div : Int
structure Lem where
  lits : List Int
  steps : List Step
structure Reply where
  yes : Bool
  lems : List Lem
  refute : List (List Int)
structure Rec where
  name : ByteArray
  reps : List Reply
def i64 (x : Int) : Prop := -9223372036854775808 ≤ x ∧ x ≤ 9223372036854775807
def partSh : Sh Part where
  k := 2
  rel := fun _ _ cs x => cs = [.int .i64 x.line, .int .i64 x.times] ∧ i64 x.line ∧ i64 x.times
  len := fun h => by rw [h.1]; rfl
  one := fun h u hu => by rw [h.1] at hu; simp at hu; rcases hu with rfl | rfl <;> rfl
  keep := fun _ _ h => h
def stepSh : Sh Step where
  k := 2
  rel := fun S w cs x => ∃ v, cs = [v, .int .i64 x.div] ∧ i64 x.div ∧ Slot partSh S w v x.parts
  len := fun ⟨v, h, _⟩ => by rw [h]; rfl
  one := fun ⟨v, h, _, h2⟩ u hu => by rw [h] at hu; simp at hu; rcases hu with rfl | rfl; exact h2.one; rfl
  keep := fun hS hk ⟨v, h, hd, h2⟩ => ⟨v, h, hd, h2.keep hS hk⟩
def clauseSh : Sh (List Int) where
  k := 1
  rel := fun S w cs x => ∃ v, cs = [v] ∧ Slot intSh S w v x
  len := fun ⟨v, h, _⟩ => by rw [h]; rfl
  one := fun ⟨v, h, h2⟩ u hu => by rw [h] at hu; simp at hu; rw [hu]; exact h2.one
  keep := fun hS hk ⟨v, h, h2⟩ => ⟨v, h, h2.keep hS hk⟩
def lemSh : Sh Lem where
  k := 2
  rel := fun S w cs x => ∃ v u, cs = [v, u] ∧ Slot intSh S w v x.lits ∧ Slot stepSh S w u x.steps
  len := fun ⟨v, u, h, _⟩ => by rw [h]; rfl
  one := fun ⟨v, z, h, h2, h3⟩ u hu => by rw [h] at hu; simp at hu; rcases hu with rfl | rfl; exact h2.one; exact h3.one
  keep := fun hS hk ⟨v, u, h, h2, h3⟩ => ⟨v, u, h, h2.keep hS hk, h3.keep hS hk⟩
def replySh : Sh Reply where
  k := 3
  rel := fun S w cs x => ∃ v u, cs = [.bool x.yes, v, u] ∧ Slot lemSh S w v x.lems ∧ Slot clauseSh S w u x.refute
  len := fun ⟨v, u, h, _⟩ => by rw [h]; rfl
  one := fun ⟨v, z, h, h2, h3⟩ u hu => by rw [h] at hu; simp at hu; rcases hu with rfl | rfl | rfl; rfl; exact h2.one; exact h3.one
  keep := fun hS hk ⟨v, u, h, h2, h3⟩ => ⟨v, u, h, h2.keep hS hk, h3.keep hS hk⟩
def recSh : Sh Rec where
  k := 2
  rel := fun S w cs x => ∃ v, cs = [.string x.name, v] ∧ Slot replySh S w v x.reps
  len := fun ⟨v, h, _⟩ => by rw [h]; rfl
  one := fun ⟨v, h, h2⟩ u hu => by rw [h] at hu; simp at hu; rcases hu with rfl | rfl; rfl; exact h2.one
  keep := fun hS hk ⟨v, h, h2⟩ => ⟨v, h, h2.keep hS hk⟩
end Go.Proofs.Ytgaipfkblfommaa
