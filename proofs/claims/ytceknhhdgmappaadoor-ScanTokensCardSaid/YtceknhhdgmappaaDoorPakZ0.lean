/- Rows of things in memory (from stage 12). -/
import Derived.WalkKit
import Derived.Below
import Derived.Lib.Hide
import Derived.Deep.AppendLies
import Derived.Lib.Varint
import Derived.Lib.VarintMem
import Derived.Test.YtceknhhdgmappaaDoorProg
import Derived.BigQuiet
import Derived.RegionTactic
import Derived.Deep.QuietTactic
import Derived.Deep.RegionLaw
import Derived.Deep.AppendSrc
import Derived.Lib.Zigzag
import Derived.Lib.AppendZerosOnto
import Derived.Lib.AppendStr
import Derived.Laws.IdiomStrings
set_option linter.unusedVariables false
set_option linter.unusedSimpArgs false
namespace Go.Proofs.YtceknhhdgmappaaDoor.Pak
set_option maxRecDepth 100000
open Go.RowKit
section
variable {T : Type}

/-- How a thing of T stands in cells. -/
structure Sh (T : Type) where
  k : Nat
  rel : (Nat → Prop) → World → List Value → T → Prop
  len : ∀ {S w cs x}, rel S w cs x → cs.length = k
  one : ∀ {S w cs x}, rel S w cs x → ∀ u ∈ cs, u.oneCell' = true
  keep : ∀ {S S' : Nat → Prop} {w w' : World} {cs : List Value} {x : T}, (∀ b, S b → S' b) → (∀ b o, S b → w'.cell? ⟨b, o, none⟩ = w.cell? ⟨b, o, none⟩) → rel S w cs x → rel S' w' cs x
/-- A row of such things lies in blocks of S. -/
def Sits (sh : Sh T) (S : Nat → Prop) (w : World) (a : Option Addr) (xs : List T) : Prop :=
  xs.length ≤ 9223372036854775807 ∧ ∀ i (h : i < xs.length), ∃ b off cs, a = some ⟨b, off, none⟩ ∧ S b ∧ (∀ j u, cs[j]? = some u → w.cell? ⟨b, off + i * sh.k + j, none⟩ = some u) ∧ sh.rel S w cs xs[i]
theorem Sits.keep {sh : Sh T} {S S' : Nat → Prop} {w w' : World} {a : Option Addr} {xs : List T} (hS : ∀ b, S b → S' b) (hk : ∀ b o, S b → w'.cell? ⟨b, o, none⟩ = w.cell? ⟨b, o, none⟩) (h : Sits sh S w a xs) : Sits sh S' w' a xs :=
  ⟨h.1, fun i hi => by
    obtain ⟨b, off, cs, e, hb, h1, h2⟩ := h.2 i hi
    exact ⟨b, off, cs, e, hS b hb, fun j u hu => (hk _ _ hb).trans (h1 j u hu), sh.keep hS hk h2⟩⟩
theorem Sits.nil (sh : Sh T) (S : Nat → Prop) (w : World) (a : Option Addr) : Sits sh S w a [] := ⟨Nat.zero_le _, fun i hi => absurd hi (Nat.not_lt_zero i)⟩
/-- Below a bound. -/
abbrev Lo (B : Nat) : Nat → Prop := fun b => b < B
theorem Sits.below {sh : Sh T} {B B' : Nat} {w w' : World} {a : Option Addr} {xs : List T} (h : Sits sh (Lo B) w a xs) (hb : Below B w w') (hB : B ≤ B') : Sits sh (Lo B') w' a xs :=
  h.keep (fun b (hb : b < B) => Nat.lt_of_lt_of_le hb hB) (fun b o hb2 => hb.cell (p := ⟨b, o, none⟩) hb2)
theorem Sits.up {sh : Sh T} {B : Nat} {w w' : World} {a : Option Addr} {xs : List T} (h : Sits sh (Lo B) w a xs) (hb : Below B w w') : Sits sh (Lo B) w' a xs := h.below hb (Nat.le_refl _)
/-- A slice in a cell. -/
def Slot (sh : Sh T) (S : Nat → Prop) (w : World) (v : Value) (xs : List T) : Prop := ∃ a cap, v = .slice a xs.length cap ∧ Sits sh S w a xs
theorem Slot.keep {sh : Sh T} {S S' : Nat → Prop} {w w' : World} {v : Value} {xs : List T} (hS : ∀ b, S b → S' b) (hk : ∀ b o, S b → w'.cell? ⟨b, o, none⟩ = w.cell? ⟨b, o, none⟩) (h : Slot sh S w v xs) : Slot sh S' w' v xs := by
  obtain ⟨a, cap, e, h1⟩ := h
  exact ⟨a, cap, e, h1.keep hS hk⟩
theorem Slot.one {sh : Sh T} {S : Nat → Prop} {w : World} {v : Value} {xs : List T} (h : Slot sh S w v xs) : v.oneCell' = true := by
  obtain ⟨a, cap, rfl, _⟩ := h
  rfl
/-- A row of the call's own, of such things. -/
structure Own (sh : Sh T) (e : TypeId) (B : Nat) (xs : List T) (v : Value) (w : World) : Prop where
  row : ∃ css : List (List Value), css.length = xs.length ∧ w.ownsRow B e sh.k v xs.length css.flatten ∧ ∀ i (h : i < xs.length) (h2 : i < css.length), sh.rel (fun b => B ≤ b ∧ b < w.heap.size ∧ v.ownBlock ≠ some b) w css[i] xs[i]
theorem Own.nil (sh : Sh T) (e : TypeId) (B : Nat) (w : World) : Own sh e B [] (.slice none 0 0) w := ⟨⟨[], rfl, World.ownsRow_nil _ _ _ _, fun i hi => absurd hi (Nat.not_lt_zero i)⟩⟩
theorem Own.below {sh : Sh T} {e : TypeId} {B : Nat} {xs : List T} {v : Value} {w w' : World} (h : Own sh e B xs v w) (hb : Below w.heap.size w w') : Own sh e B xs v w' := by
  obtain ⟨css, h1, h2, h3⟩ := h.row
  exact ⟨⟨css, h1, World.ownsRow.kept (row := none) h2 ⟨hb.os, hb.tape, hb.output, hb.size, fun q hq _ => hb.block q hq⟩ (by cases v.ownBlock <;> simp), fun i hi hi2 => sh.keep (fun b ⟨a1, a2, a3⟩ => ⟨a1, Nat.lt_of_lt_of_le a2 hb.size, a3⟩) (fun b o ⟨_, a2, _⟩ => hb.cell (p := ⟨b, o, none⟩) a2) (h3 i hi hi2)⟩⟩
theorem flatten_get {k : Nat} : ∀ {css : List (List Value)}, (∀ cs ∈ css, cs.length = k) → ∀ (i j : Nat) (hi : i < css.length), j < k → css.flatten[i * k + j]? = css[i][j]?
  | [], _, i, j, hi, _ => absurd hi (Nat.not_lt_zero i)
  | c :: css, h, 0, j, _, hj => by
    rw [List.flatten_cons, Nat.zero_mul, Nat.zero_add, List.getElem?_append_left (by rw [h c List.mem_cons_self]; exact hj)]
    rfl
  | c :: css, h, i + 1, j, hi, hj => by
    have := flatten_get (css := css) (fun cs hc => h cs (List.mem_cons_of_mem _ hc)) i j (by simpa using hi) hj
    rw [List.flatten_cons, List.getElem?_append_right (by rw [h c List.mem_cons_self, Nat.succ_mul]; omega), h c List.mem_cons_self, show (i + 1) * k + j - k = i * k + j by rw [Nat.succ_mul]; omega, this]
    rfl
/-- What an own row says. -/
theorem Own.sits {sh : Sh T} {e : TypeId} {B : Nat} {xs : List T} {v : Value} {w : World} (h : Own sh e B xs v w) (hm : xs.length ≤ 9223372036854775807) : Slot sh (fun b => B ≤ b ∧ b < w.heap.size) w v xs := by
  obtain ⟨css, h1, h2, h3⟩ := h.row
  have hk : ∀ cs ∈ css, cs.length = sh.k := fun cs hc => by
    obtain ⟨i, hi, rfl⟩ := List.getElem_of_mem hc
    exact sh.len (h3 i (by omega) hi)
  have hc := fun g => World.ownsRow.cells h2 (g := g)
  have hlt := World.ownsRow.lt h2
  obtain ⟨_, ⟨rfl, h0⟩ | ⟨g, cap, cur, rfl, _⟩⟩ := h2
  · exact ⟨none, 0, by rw [h0], hm, fun i hi => by omega⟩
  · refine ⟨some ⟨g, 0, none⟩, cap, rfl, hm, fun i hi => ⟨g, 0, css[i]'(by omega), rfl, hlt g rfl, fun j u hu => ?_, sh.keep (fun b ⟨a1, a2, _⟩ => ⟨a1, a2⟩) (fun b o _ => rfl) (h3 i hi (by omega))⟩⟩
    have hj : j < sh.k := by
      have := (List.getElem?_eq_some_iff.1 hu).1
      rwa [hk _ (List.getElem_mem _)] at this
    have := hc g rfl (i * sh.k + j) u (by rw [flatten_get hk i j (by omega) hj]; exact hu)
    rwa [show (⟨g, 0, none⟩ : Addr).add (i * sh.k + j) = ⟨g, 0 + i * sh.k + j, none⟩ by unfold Addr.add; split <;> simp_all] at this
/-- One more behind an own row: what the append's law gives. -/
theorem Own.step {sh : Sh T} {e : TypeId} {B : Nat} {xs : List T} {x : T} {v v6 : Value} {w w5 w6 : World} {g H : Nat} {cs : List Value} (h : Own sh e B xs v w) (hb5 : Below w.heap.size w w5) (hB : B ≤ w.heap.size) (hx : sh.rel (fun b => w.heap.size ≤ b ∧ b < w5.heap.size) w5 cs x) (hg : w5.grownBy w6 v.ownBlock) (hH : w5.heap.size ≤ H)
    (hv : v6.ownBlock = some g) (hat : v.ownBlock = some g ∨ g = H) (hr : ∀ zs, w5.ownsRow B e sh.k v xs.length zs → w6.ownsRow B e sh.k v6 (xs.length + 1) (zs ++ cs)) : Own sh e B (xs ++ [x]) v6 w6 := by
  obtain ⟨css, h1, h2, h3⟩ := h.row
  have hvb : ∀ b, v.ownBlock = some b → b < w.heap.size := fun b e => (World.ownsRow.lt h2 b e).2
  have hk : ∀ b o, b < w5.heap.size → v.ownBlock ≠ some b → w6.cell? ⟨b, o, none⟩ = w5.cell? ⟨b, o, none⟩ := fun b o hb hne => World.cell?_of_block (hg.block b hb (fun e => hne e.symm))
  have hne6 : ∀ b, b < w5.heap.size → v.ownBlock ≠ some b → v6.ownBlock ≠ some b := fun b hb hne e => by
    rw [hv] at e
    rcases hat with hat | hat
    · exact hne (hat.trans e)
    · injection e with e; omega
  have h25 : w5.ownsRow B e sh.k v xs.length css.flatten := World.ownsRow.kept (row := none) h2 ⟨hb5.os, hb5.tape, hb5.output, hb5.size, fun q hq _ => hb5.block q hq⟩ (by cases v.ownBlock <;> simp)
  refine ⟨⟨css ++ [cs], by simp [h1], ?_, fun i hi hi2 => ?_⟩⟩
  · rw [List.length_append, List.flatten_append]
    simpa using hr _ h25
  · by_cases hlt : i < xs.length
    · rw [List.getElem_append_left hlt, List.getElem_append_left (by omega)]
      refine sh.keep (fun b ⟨a1, a2, a3⟩ => ?_) (fun b o ⟨a1, a2, a3⟩ => ?_) (h3 i hlt (by omega))
      · have h5 := Nat.lt_of_lt_of_le a2 hb5.size
        exact ⟨a1, Nat.lt_of_lt_of_le h5 hg.size, hne6 b h5 a3⟩
      · exact (hk b o (Nat.lt_of_lt_of_le a2 hb5.size) a3).trans (hb5.cell (p := ⟨b, o, none⟩) a2)
    · have hi' : i = xs.length := by simp at hi; omega
      subst hi'
      simp only [List.getElem_concat_length]
      have e2 : (css ++ [cs])[xs.length]'hi2 = cs := by
        simp only [← h1, List.getElem_concat_length]
      rw [e2]
      refine sh.keep (fun b ⟨a1, a2⟩ => ?_) (fun b o ⟨a1, a2⟩ => ?_) hx
      · have hne : v.ownBlock ≠ some b := fun e => by have := hvb b e; omega
        exact ⟨by omega, Nat.lt_of_lt_of_le a2 hg.size, hne6 b a2 hne⟩
      · exact hk b o a2 (fun e => by have := hvb b e; omega)
end
def intSh : Sh Int where
  k := 1
  rel := fun _ _ cs x => cs = [.int .i64 x] ∧ (-9223372036854775808 ≤ x ∧ x ≤ 9223372036854775807)
  len := fun h => by rw [h.1]; rfl
  one := fun h u hu => by rw [h.1] at hu; simp at hu; rw [hu]; rfl
  keep := fun _ _ h => h
def i64 (x : Int) : Prop := -9223372036854775808 ≤ x ∧ x ≤ 9223372036854775807
def clauseSh : Sh (List Int) where
  k := 1
  rel := fun S w cs x => ∃ v, cs = [v] ∧ Slot intSh S w v x
  len := fun ⟨v, h, _⟩ => by rw [h]; rfl
  one := fun ⟨v, h, h2⟩ u hu => by rw [h] at hu; simp at hu; rw [hu]; exact h2.one
  keep := fun hS hk ⟨v, h, h2⟩ => ⟨v, h, h2.keep hS hk⟩
structure KeptW (g : Nat) (r : Option Nat) (w w' : World) : Prop where
  os : w'.os = w.os
  tape : w'.tape = w.tape
  output : w'.output = w.output
  size : w.heap.size ≤ w'.heap.size
  block : ∀ q, q < w.heap.size → q ≠ g → some q ≠ r → w'.heap[q]? = w.heap[q]?
theorem KeptW.of_below {g : Nat} {r : Option Nat} {w w' : World} (hb : Below w.heap.size w w') : KeptW g r w w' := ⟨hb.os, hb.tape, hb.output, hb.size, fun q hq _ _ => hb.block q hq⟩
theorem KeptW.below {g : Nat} {r : Option Nat} {w w' : World} (h : KeptW g r w w') (hr : ∀ q, r = some q → g < q) : Below g w w' ∨ w.heap.size ≤ g := by
  by_cases hg : w.heap.size ≤ g
  · exact .inr hg
  · exact .inl ⟨h.os, h.tape, h.output, h.size, fun q hq => h.block q (by omega) (by omega) (fun e => by have := hr q e.symm; omega)⟩
theorem Tryd.infoByte : (Tryd.prog.info? 5).map (fun i => (i.zero, i.size, i.bytes)) = some (some (.int .u8 0), 1, 1) := by kernel_rfl
theorem info_parts {p : Option TypeInfo} {a : Option Value} {b c : Nat} (h : p.map (fun i => (i.zero, i.size, i.bytes)) = some (a, b, c)) : ∃ i, p = some i ∧ i.zero = a ∧ i.size = b ∧ i.bytes = c := by
  cases p with
  | none => cases h
  | some i => simp at h; exact ⟨i, rfl, h.1, h.2.1, h.2.2⟩
theorem own_slice {w : World} {B k n : Nat} {e : TypeId} {v : Value} {xs : List Value} (h : w.ownsRow B e k v n xs) : ∃ a cap, v = .slice a n cap := by
  rcases h.2 with ⟨e, e0⟩ | ⟨q, cap, _, e, _⟩
  · exact ⟨none, 0, by rw [e, e0]⟩
  · exact ⟨_, cap, e⟩
def byteSh : Sh UInt8 where
  k := 1
  rel := fun _ _ cs x => cs = [.int .u8 (x.toNat : Int)]
  len := fun h => by rw [h]; rfl
  one := fun h u hu => by rw [h] at hu; simp at hu; rw [hu]; rfl
  keep := fun _ _ h => h
/-- Bytes of the call's own. -/
def BRow (B : Nat) (l : List UInt8) (v : Value) (w : World) : Prop := w.ownsRow B 5 1 v l.length (Lib.byteCells l)
theorem BRow.nil (B : Nat) (w : World) : BRow B [] (.slice none 0 0) w := World.ownsRow_nil _ _ _ _
theorem BRow.below {B : Nat} {l : List UInt8} {v : Value} {w w' : World} (h : BRow B l v w) (hb : Below w.heap.size w w') : BRow B l v w' :=
  World.ownsRow.kept (row := none) h ⟨hb.os, hb.tape, hb.output, hb.size, fun q hq _ => hb.block q hq⟩ (by cases v.ownBlock <;> simp)
theorem BRow.lower {B B' : Nat} {l : List UInt8} {v : Value} {w : World} (h : BRow B l v w) (hb : B' ≤ B) : BRow B' l v w := by
  obtain ⟨h1, h2⟩ := h
  exact ⟨h1, h2.imp id fun ⟨g, cap', cur, e1, e2, e3⟩ => ⟨g, cap', cur, e1, Nat.le_trans hb e2, e3⟩⟩
theorem BRow.slice {B : Nat} {l : List UInt8} {v : Value} {w : World} (h : BRow B l v w) : ∃ a cap, v = .slice a l.length cap := own_slice h
theorem BRow.slot {B : Nat} {l : List UInt8} {v : Value} {w : World} (h : BRow B l v w) (hm : l.length ≤ 9223372036854775807) : Slot byteSh (fun b => B ≤ b ∧ b < w.heap.size) w v l := by
  have hc := fun g => World.ownsRow.cells h (g := g)
  have hlt := World.ownsRow.lt h
  obtain ⟨_, ⟨rfl, h0⟩ | ⟨g, cap, cur, rfl, _⟩⟩ := h
  · exact ⟨none, 0, by rw [h0], hm, fun i hi => by omega⟩
  · refine ⟨some ⟨g, 0, none⟩, cap, rfl, hm, fun i hi => ⟨g, 0, _, rfl, hlt g rfl, fun j u hu => ?_, rfl⟩⟩
    have hj : j = 0 := by have := (List.getElem?_eq_some_iff.1 hu).1; simp at this; exact this
    subst hj
    have := hc g rfl i (.int .u8 (l[i].toNat : Int)) (by simp [Lib.byteCells, hi])
    rw [show (⟨g, 0, none⟩ : Addr).add i = ⟨g, 0 + i, none⟩ by unfold Addr.add; split <;> simp_all] at this
    simp at hu
    subst hu
    simpa [byteSh] using this
/-- append(own, bytes...). -/
theorem run_cat {w : World} {B : Nat} {l m : List UInt8} {v u : Value} {S : Nat → Prop} (hv : BRow B l v w) (hu : Slot byteSh S w u m) (hB : B ≤ w.heap.size) (hsz : l.length + m.length ≤ 140000000000000) :
    ∃ v' w', (∀ ty, (Builtin.append_ #[33, 33] ty #[v, u]).run Tryd.prog w = .ok v' w') ∧ BRow B (l ++ m) v' w' ∧ Below B w w' := by
  obtain ⟨i0, hi, hz0, hz1, hz2⟩ := info_parts Tryd.infoByte
  obtain ⟨a, cap, rfl, hm, hs⟩ := hu
  have hvb := fun k (hk : v.ownBlock = some k) => (World.ownsRow.lt hv k hk).1
  by_cases h0 : m.length = 0
  · have hy : m = [] := List.length_eq_zero_iff.1 h0
    subst hy
    refine ⟨v, w, fun ty => ?_, by simpa using hv, Below.refl _ _⟩
    have hf : ∀ ad : Addr, (Builtin.firstCells 1 0 (.slice (some ad) 0 cap)).run Tryd.prog w = .ok #[] w := fun ad => run_firstCells_some w 1 0 ad 0 cap [] (by simp) (fun j u h => by cases h)
    have hf0 := run_firstCells_none (P := Tryd.prog) w 1 0 0 cap
    have ht := Tryd.underlying33
    rcases hv.2 with ⟨rfl, hl0⟩ | ⟨g, cap', cur, rfl, _, _, hnc, _⟩
    · cases a <;> simp [Builtin.append_, run_underlying ht, sizeOf, typeInfo, hi, hz1, Builtin.lenOf, hf, hf0]
    · cases a <;> simp [Builtin.append_, run_underlying ht, sizeOf, typeInfo, hi, hz1, Builtin.lenOf, hf, hf0, hnc, storeCells]
  · obtain ⟨b, off, cs, rfl, _⟩ := hs 0 (by omega)
    have hnews : ∀ j u, (Lib.byteCells m)[j]? = some u → w.cell? ((⟨b, off, none⟩ : Addr).add j) = some u := fun j u hj => by
      have hjl : j < m.length := by have := (List.getElem?_eq_some_iff.1 hj).1; simpa [Lib.byteCells] using this
      obtain ⟨b', off', cs, e, _, hc, rfl⟩ := hs j hjl
      injection e with e
      injection e with e1 e2 e3
      subst e1 e2
      have := hc 0 _ rfl
      rw [show (⟨b, off, none⟩ : Addr).add j = ⟨b, off + j, none⟩ by unfold Addr.add; split <;> simp_all]
      simp [Lib.byteCells, hjl] at hj
      subst hj
      simpa [byteSh] using this
    have hrun := fun ty => run_append_own_at (P := Tryd.prog) w B 33 ty 5 i0 _ 1 1 Tryd.underlying33 hi hz0 hz1 hz2 rfl (by decide) v l.length (Lib.byteCells l) hv ⟨b, off, none⟩ m.length cap (Lib.byteCells m) (by simp [Lib.byteCells]) hnews (fun u hu => by
      obtain ⟨x, _, rfl⟩ := List.mem_map.1 hu; rfl) (by unfold maxLen; omega) (by omega) hB
    obtain ⟨v', w', hr, h2, h3, _⟩ := hrun 33
    refine ⟨v', w', fun ty => hr, ?_, (Below.refl B w).grown h3 hB hvb⟩
    unfold BRow
    rw [List.length_append, Lib.byteCells_append]
    exact h2
theorem byte_new (w : World) (c : UInt8) (v : Int) (hv : v = (c.toNat : Int)) : Slot byteSh (fun _ => True) (w.alloc (.cells #[.int .u8 v] 5)) (.slice (some ⟨w.heap.size, 0, none⟩) 1 1) [c] := by
  subst hv
  refine ⟨_, _, rfl, by simp, fun i hi => ?_⟩
  have hi0 : i = 0 := by simp at hi; exact hi
  subst hi0
  refine ⟨_, _, [.int .u8 (c.toNat : Int)], rfl, trivial, fun j u hu => ?_, rfl⟩
  have hj : j = 0 := by have := (List.getElem?_eq_some_iff.1 hu).1; simp at this; exact this
  subst hj
  rw [cell_of_row _ _ _ _ _ _ (heap_alloc_new w _)]
  simpa using hu
/-- append(own, byte). -/
theorem run_snoc {w : World} {B : Nat} {l : List UInt8} {v : Value} (c : UInt8) (x : Int) (hx : x = (c.toNat : Int)) (hv : BRow B l v w) (hB : B ≤ w.heap.size) (hsz : l.length + 1 ≤ 140000000000000) :
    ∃ v' w', (∀ ty, (Builtin.append_ #[33, 33] ty #[v, .slice (some ⟨w.heap.size, 0, none⟩) 1 1]).run Tryd.prog (w.alloc (.cells #[.int .u8 x] 5)) = .ok v' w') ∧ BRow B (l ++ [c]) v' w' ∧ Below B w w' := by
  have hA : Below w.heap.size w (w.alloc (.cells #[.int .u8 x] 5)) := (Below.refl _ w).alloc (Nat.le_refl _) _
  obtain ⟨v', w', h1, h2, h3⟩ := run_cat (hv.below hA) (byte_new w c x hx) (Nat.le_trans hB hA.size) (by simpa using hsz)
  exact ⟨v', w', h1, h2, (hA.mono hB).trans h3⟩
/-- append, and where the row is then. -/
theorem run_cat2 {w : World} {B : Nat} {l m : List UInt8} {v u : Value} {S : Nat → Prop} (hv : BRow B l v w) (hu : Slot byteSh S w u m) (hB : B ≤ w.heap.size) (hsz : l.length + m.length ≤ 140000000000000) :
    ∃ v' w', (∀ ty, (Builtin.append_ #[33, 33] ty #[v, u]).run Tryd.prog w = .ok v' w') ∧ BRow B (l ++ m) v' w' ∧ Below B w w' ∧ w.grownBy w' v.ownBlock ∧ (v'.ownBlock = v.ownBlock ∨ v'.ownBlock = some w.heap.size) := by
  obtain ⟨v', w', h1, h2, h3⟩ := run_cat hv hu hB hsz
  refine ⟨v', w', h1, h2, h3, ?_⟩
  obtain ⟨i0, hi, hz0, hz1, hz2⟩ := info_parts Tryd.infoByte
  obtain ⟨a, cap, rfl, hm, hs⟩ := hu
  by_cases h0 : m.length = 0
  · have hy : m = [] := List.length_eq_zero_iff.1 h0
    subst hy
    have key : ∀ ty, (Builtin.append_ #[33, 33] ty #[v, .slice a 0 cap]).run Tryd.prog w = .ok v w := fun ty => by
      have hf : ∀ ad : Addr, (Builtin.firstCells 1 0 (.slice (some ad) 0 cap)).run Tryd.prog w = .ok #[] w := fun ad => run_firstCells_some w 1 0 ad 0 cap [] (by simp) (fun j u h => by cases h)
      have hf0 := run_firstCells_none (P := Tryd.prog) w 1 0 0 cap
      have ht := Tryd.underlying33
      rcases hv.2 with ⟨rfl, hl0⟩ | ⟨g, cap', cur, rfl, _, _, hnc, _⟩
      · cases a <;> simp [Builtin.append_, run_underlying ht, sizeOf, typeInfo, hi, hz1, Builtin.lenOf, hf, hf0]
      · cases a <;> simp [Builtin.append_, run_underlying ht, sizeOf, typeInfo, hi, hz1, Builtin.lenOf, hf, hf0, hnc, storeCells]
    have := (h1 33).symm.trans (key 33)
    injection this with e1 e2
    subst e1 e2
    exact ⟨⟨rfl, rfl, rfl, Nat.le_refl _, fun _ _ _ => rfl⟩, .inl rfl⟩
  · obtain ⟨b, off, cs, rfl, _⟩ := hs 0 (by omega)
    have hnews : ∀ j u, (Lib.byteCells m)[j]? = some u → w.cell? ((⟨b, off, none⟩ : Addr).add j) = some u := fun j u hj => by
      have hjl : j < m.length := by have := (List.getElem?_eq_some_iff.1 hj).1; simpa [Lib.byteCells] using this
      obtain ⟨b', off', cs, e, _, hc, rfl⟩ := hs j hjl
      injection e with e
      injection e with e1 e2 e3
      subst e1 e2
      have := hc 0 _ rfl
      rw [show (⟨b, off, none⟩ : Addr).add j = ⟨b, off + j, none⟩ by unfold Addr.add; split <;> simp_all]
      simp [Lib.byteCells, hjl] at hj
      subst hj
      simpa [byteSh] using this
    have hrun := fun ty => run_append_own_at (P := Tryd.prog) w B 33 ty 5 i0 _ 1 1 Tryd.underlying33 hi hz0 hz1 hz2 rfl (by decide) v l.length (Lib.byteCells l) hv ⟨b, off, none⟩ m.length cap (Lib.byteCells m) (by simp [Lib.byteCells]) hnews (fun u hu => by
      obtain ⟨x, _, rfl⟩ := List.mem_map.1 hu; rfl) (by unfold maxLen; omega) (by omega) hB
    obtain ⟨v2, w2, hr, k2, k3, _, k5⟩ := hrun 33
    have := (h1 33).symm.trans hr
    injection this with e1 e2
    subst e1 e2
    exact ⟨k3, k5⟩
/-- string(bytes). -/
theorem conv_bytes {w : World} {S : Nat → Prop} {a : Option Addr} {l : List UInt8} (cap : Nat) (hs : Sits byteSh S w a l) : (convert 33 9 (.slice a l.length cap)).run Tryd.prog w = .ok (.string ⟨l.toArray⟩) w := by
  cases a with
  | none =>
    have h0 : l = [] := by
      cases l with
      | nil => rfl
      | cons x l => obtain ⟨_, _, _, e, _⟩ := hs.2 0 (by simp); cases e
    subst h0
    show (convert 33 9 (.slice none 0 cap)).run Tryd.prog w = _
    rw [run_convert_bytes_string w _ _ 5 none 0 cap Tryd.underlying33 Tryd.underlying5 Tryd.underlying9]
    rfl
  | some a =>
    refine run_convert_bytes_back w _ _ 5 a cap l Tryd.underlying33 Tryd.underlying5 Tryd.underlying9 (fun j hj => ?_)
    obtain ⟨b, off, cs, e, _, hc, rfl⟩ := hs.2 j hj
    injection e with e
    subst e
    have := hc 0 _ rfl
    rw [show (⟨b, off, none⟩ : Addr).add j = ⟨b, off + j, none⟩ by unfold Addr.add; split <;> simp_all]
    simpa [byteSh] using this
theorem BRow.conv {B : Nat} {l : List UInt8} {v : Value} {w : World} (h : BRow B l v w) (hm : l.length ≤ 9223372036854775807) : (convert 33 9 v).run Tryd.prog w = .ok (.string ⟨l.toArray⟩) w := by
  obtain ⟨a, cap, rfl, hs⟩ := h.slot hm
  exact conv_bytes cap hs
theorem Sits.past {T : Type} {sh : Sh T} {S : Nat → Prop} {w w' : World} {a : Option Addr} {xs : List T} {row : Option Nat} (h : Sits sh S w a xs) (hg : w.grownBy w' row) (hS : ∀ b, S b → b < w.heap.size ∧ some b ≠ row) : Sits sh S w' a xs :=
  h.keep (fun _ h => h) (fun b o hb => World.cell?_of_block (hg.block b (hS b hb).1 (hS b hb).2))
theorem Sits.on {T : Type} {sh : Sh T} {S : Nat → Prop} {w w' : World} {a : Option Addr} {xs : List T} (h : Sits sh S w a xs) (hb : Below w.heap.size w w') (hS : ∀ b, S b → b < w.heap.size) : Sits sh S w' a xs :=
  h.keep (fun _ h => h) (fun b o hbb => hb.cell (p := ⟨b, o, none⟩) (hS b hbb))
theorem Sits.lo {T : Type} {sh : Sh T} {S : Nat → Prop} {w : World} {a : Option Addr} {xs : List T} {B : Nat} (h : Sits sh S w a xs) (hS : ∀ b, S b → b < B) : Sits sh (Lo B) w a xs := h.keep hS (fun _ _ _ => rfl)
end Go.Proofs.YtceknhhdgmappaaDoor.Pak
