/- Rows of the call's own whose things lie in blocks of S; forms, clauses in rows. -/
import Derived.Test.YtelndcmfddbgiaaDoorCs01
import Derived.Test.YtelndcmfddbgiaaDoorCs04
import Derived.Test.YtelndcmfddbgiaaDoorCs05
import Derived.Test.YtelndcmfddbgiaaDoorCs08
set_option linter.unusedVariables false
set_option linter.unusedSimpArgs false
set_option linter.unusedVariables false
set_option linter.unusedSimpArgs false
namespace Go.Proofs.YtelndcmfddbgiaaDoor
set_option maxRecDepth 100000
open Go.RowKit

section
variable {T : Type}
/-- A row of the call's own, its things in blocks of S. -/
structure OwnP (sh : Pak.Sh T) (e : TypeId) (B : Nat) (S : Nat → Prop) (xs : List T) (v : Value) (w : World) : Prop where
  row : ∃ css : List (List Value), css.length = xs.length ∧ w.ownsRow B e sh.k v xs.length css.flatten ∧ ∀ i (h : i < xs.length) (h2 : i < css.length), sh.rel S w css[i] xs[i]
  ok : ∀ b, S b → b < w.heap.size ∧ v.ownBlock ≠ some b
theorem OwnP.nil (sh : Pak.Sh T) (e : TypeId) (B : Nat) (w : World) : OwnP sh e B (fun _ => False) [] (.slice none 0 0) w := ⟨⟨[], rfl, World.ownsRow_nil _ _ _ _, fun i hi => absurd hi (Nat.not_lt_zero i)⟩, fun b h => h.elim⟩
theorem OwnP.lt {sh : Pak.Sh T} {e : TypeId} {B : Nat} {S : Nat → Prop} {xs : List T} {v : Value} {w : World} (h : OwnP sh e B S xs v w) : ∀ q, v.ownBlock = some q → B ≤ q ∧ q < w.heap.size := fun q hq => by
  obtain ⟨css, h1, h2, h3⟩ := h.row
  exact World.ownsRow.lt h2 q hq
theorem OwnP.form {sh : Pak.Sh T} {e : TypeId} {B : Nat} {S : Nat → Prop} {xs : List T} {v : Value} {w : World} (h : OwnP sh e B S xs v w) : ∃ a cap, v = .slice a xs.length cap := by
  obtain ⟨css, h1, h2, h3⟩ := h.row
  exact Pak.own_slice h2
theorem OwnP.nf {sh : Pak.Sh T} {e : TypeId} {B : Nat} {S : Nat → Prop} {xs : List T} {v : Value} {w : World} (h : OwnP sh e B S xs v w) : ∀ q, v.ownBlock = some q → ∀ o, w.frozen? ⟨q, o, none⟩ = false := fun q hq o => by
  obtain ⟨css, h1, h2, h3⟩ := h.row
  obtain ⟨_, ⟨rfl, _⟩ | ⟨g, cap, cur, rfl, _, hh, _⟩⟩ := h2
  · cases hq
  · injection hq with hq
    subst hq
    exact frozen_of_row _ _ _ _ _ hh
/-- It stands while other blocks are written. -/
theorem OwnP.keep {sh : Pak.Sh T} {e : TypeId} {B : Nat} {S : Nat → Prop} {xs : List T} {v : Value} {w w' : World} (h : OwnP sh e B S xs v w) (hsz : w.heap.size ≤ w'.heap.size) (hk : ∀ q, (S q ∨ v.ownBlock = some q) → w'.heap[q]? = w.heap[q]?) : OwnP sh e B S xs v w' := by
  obtain ⟨css, h1, h2, h3⟩ := h.row
  refine ⟨⟨css, h1, ?_, fun i hi hi2 => sh.keep (fun b hb => hb) (fun b o hb => World.cell?_of_block (hk b (.inl hb))) (h3 i hi hi2)⟩, fun b hb => ⟨Nat.lt_of_lt_of_le (h.ok b hb).1 hsz, (h.ok b hb).2⟩⟩
  obtain ⟨hl, h0 | ⟨g, cap, cur, hv, hb, hh, r⟩⟩ := h2
  · exact ⟨hl, .inl h0⟩
  · exact ⟨hl, .inr ⟨g, cap, cur, hv, hb, by rw [hk g (.inr (by rw [hv]; rfl))]; exact hh, r⟩⟩
theorem OwnP.below {sh : Pak.Sh T} {e : TypeId} {B : Nat} {S : Nat → Prop} {xs : List T} {v : Value} {w w' : World} (h : OwnP sh e B S xs v w) (hb : Below w.heap.size w w') : OwnP sh e B S xs v w' :=
  h.keep hb.size (fun q hq => hb.block q (by
    rcases hq with hq | hq
    · exact (h.ok q hq).1
    · exact (h.lt q hq).2))
theorem OwnP.grown {sh : Pak.Sh T} {e : TypeId} {B : Nat} {S : Nat → Prop} {xs : List T} {v : Value} {w w' : World} {row : Option Nat} (h : OwnP sh e B S xs v w) (hg : w.grownBy w' row) (hr : ∀ q, row = some q → ¬ S q ∧ v.ownBlock ≠ some q) : OwnP sh e B S xs v w' :=
  h.keep hg.size (fun q hq => hg.block q (by
    rcases hq with hq | hq
    · exact (h.ok q hq).1
    · exact (h.lt q hq).2) (fun e => by
    rcases hq with hq | hq
    · exact (hr q e.symm).1 hq
    · exact (hr q e.symm).2 hq))
theorem OwnP.keptW {sh : Pak.Sh T} {e : TypeId} {B M : Nat} {r : Option Nat} {S : Nat → Prop} {xs : List T} {v : Value} {w w' : World} (h : OwnP sh e B S xs v w) (hk : Pak.KeptW M r w w') (hM : ¬ S M ∧ v.ownBlock ≠ some M) (hr : ∀ q, r = some q → ¬ S q ∧ v.ownBlock ≠ some q) : OwnP sh e B S xs v w' :=
  h.keep hk.size (fun q hq => hk.block q (by
    rcases hq with hq | hq
    · exact (h.ok q hq).1
    · exact (h.lt q hq).2) (fun e => by
    subst e
    rcases hq with hq | hq
    · exact hM.1 hq
    · exact hM.2 hq) (fun e => by
    rcases hq with hq | hq
    · exact (hr q e.symm).1 hq
    · exact (hr q e.symm).2 hq))
theorem OwnP.more {sh : Pak.Sh T} {e : TypeId} {B : Nat} {S S' : Nat → Prop} {xs : List T} {v : Value} {w : World} (h : OwnP sh e B S xs v w) (hS : ∀ b, S b → S' b) (hok : ∀ b, S' b → b < w.heap.size ∧ v.ownBlock ≠ some b) : OwnP sh e B S' xs v w := by
  obtain ⟨css, h1, h2, h3⟩ := h.row
  exact ⟨⟨css, h1, h2, fun i hi hi2 => sh.keep hS (fun b o hb => rfl) (h3 i hi hi2)⟩, hok⟩
/-- append(own, T{..}). -/
theorem OwnP.put {P : Program} {sh : Pak.Sh T} {t e : TypeId} {B : Nat} {S Sx : Nat → Prop} {xs : List T} {x : T} {v : Value} {w : World} {cs : List Value} (ht : P.underlying t = some (.slice e)) {by' : Nat} (hin : (P.info? e).map (fun i => (i.zero.map fun z => z.cells.size, i.size, i.bytes)) = some (some sh.k, sh.k, by')) (hk : 0 < sh.k) (hby : by' ≤ 100)
    (h : OwnP sh e B S xs v w) (hn : xs.length ≤ 4194304) (hB : B ≤ w.heap.size) (hx : sh.rel Sx w cs x) (hSx : ∀ b, Sx b → b < w.heap.size ∧ v.ownBlock ≠ some b) :
    ∃ v6 w6, (∀ ty, (Builtin.append_ #[t, t] ty #[v, .slice (some ⟨w.heap.size, 0, none⟩) 1 1]).run P (w.alloc (.cells cs.toArray e)) = .ok v6 w6) ∧ OwnP sh e B (fun b => S b ∨ Sx b) (xs ++ [x]) v6 w6 ∧ w.grownBy w6 v.ownBlock ∧ (v6.ownBlock = v.ownBlock ∨ ∃ q, v6.ownBlock = some q ∧ w.heap.size ≤ q) := by
  have hA : Below w.heap.size w (w.alloc (.cells cs.toArray e)) := (Below.refl _ w).alloc (Nat.le_refl _) _
  obtain ⟨css, h1, h2, h3⟩ := (h.below hA).row
  obtain ⟨i0, hi, hz, hs, hb⟩ : ∃ i0, P.info? e = some i0 ∧ (∃ z, i0.zero = some z ∧ z.cells.size = sh.k) ∧ i0.size = sh.k ∧ i0.bytes = by' := by
    cases hp : P.info? e with
    | none => rw [hp] at hin; cases hin
    | some i =>
      rw [hp] at hin
      simp at hin
      obtain ⟨⟨z, a1, a2⟩, a3, a4⟩ := hin
      exact ⟨i, rfl, ⟨z, a1, a2⟩, a3, a4⟩
  obtain ⟨z, hz1, hz2⟩ := hz
  have hlen := sh.len hx
  have hrun := fun ty => run_append_own_at (P := P) (w.alloc (.cells cs.toArray e)) B t ty e i0 z sh.k by' ht hi hz1 hs hb hz2 hk v xs.length css.flatten h2 ⟨w.heap.size, 0, none⟩ 1 1 cs (by rw [hlen]; omega) (by
    have := World.news_of_block (heap_alloc_new w (.cells cs.toArray e))
    simpa using this) (sh.one hx) (by unfold maxLen; omega) (by
    have : (xs.length + 1) * by' ≤ (4194304 + 1) * 100 := Nat.mul_le_mul (by omega) hby
    omega) (Nat.le_trans hB hA.size)
  obtain ⟨v6, w6, hr, k2, k3, _, k5⟩ := hrun t
  have hvb := h.lt
  have hkeep : ∀ b o, b < w.heap.size → v.ownBlock ≠ some b → w6.cell? ⟨b, o, none⟩ = w.cell? ⟨b, o, none⟩ := fun b o hb hne => (World.cell?_of_block (k3.block b (Nat.lt_of_lt_of_le hb hA.size) (fun e => hne e.symm))).trans (hA.cell (p := ⟨b, o, none⟩) hb)
  have hsz : w.heap.size ≤ w6.heap.size := Nat.le_trans hA.size k3.size
  have k6 : v6.ownBlock = v.ownBlock ∨ ∃ q, v6.ownBlock = some q ∧ w.heap.size ≤ q := by
    rcases k5 with k5 | k5
    · exact .inl k5
    · exact .inr ⟨_, k5, hA.size⟩
  have hne6 : ∀ b, b < w.heap.size → v.ownBlock ≠ some b → v6.ownBlock ≠ some b := fun b hb hne e => by
    rcases k6 with k5 | ⟨q, k5, hq⟩
    · exact hne (k5.symm.trans e)
    · rw [k5] at e
      injection e with e
      omega
  refine ⟨v6, w6, fun ty => hr, ⟨⟨css ++ [cs], by simp [h1], ?_, fun i hi hi2 => ?_⟩, fun b hb => ?_⟩, ⟨k3.os.trans hA.os, k3.tape.trans hA.tape, k3.output.trans hA.output, hsz, fun q hq hne => (k3.block q (Nat.lt_of_lt_of_le hq hA.size) hne).trans (hA.block q hq)⟩, k6⟩
  · rw [List.length_append, List.flatten_append]
    simpa using k2
  · by_cases hlt : i < xs.length
    · rw [List.getElem_append_left hlt, List.getElem_append_left (by omega)]
      have h3' := h3 i hlt (by omega)
      exact sh.keep (fun b hb => .inl hb) (fun b o hb => World.cell?_of_block (k3.block b (Nat.lt_of_lt_of_le (h.ok b hb).1 hA.size) (fun e => (h.ok b hb).2 e.symm))) h3'
    · have hi' : i = xs.length := by simp at hi; omega
      subst hi'
      simp only [List.getElem_concat_length]
      have e2 : (css ++ [cs])[xs.length]'hi2 = cs := by simp only [← h1, List.getElem_concat_length]
      rw [e2]
      exact sh.keep (fun b hb => .inr hb) (fun b o hb => hkeep b o (hSx b hb).1 (hSx b hb).2) hx
  · have h6 : b < w.heap.size ∧ v.ownBlock ≠ some b := by
      rcases hb with hb | hb
      · exact h.ok b hb
      · exact hSx b hb
    exact ⟨Nat.lt_of_lt_of_le h6.1 hsz, hne6 b h6.1 h6.2⟩
theorem OwnP.slot {sh : Pak.Sh T} {e : TypeId} {B : Nat} {S : Nat → Prop} {xs : List T} {v : Value} {w : World} (h : OwnP sh e B S xs v w) (hm : xs.length ≤ 9223372036854775807) : Pak.Slot sh (fun b => S b ∨ v.ownBlock = some b) w v xs := by
  obtain ⟨css, h1, h2, h3⟩ := h.row
  have hk : ∀ cs ∈ css, cs.length = sh.k := fun cs hc => by
    obtain ⟨i, hi, rfl⟩ := List.getElem_of_mem hc
    exact sh.len (h3 i (by omega) hi)
  have hc := fun g => World.ownsRow.cells h2 (g := g)
  obtain ⟨_, ⟨rfl, h0⟩ | ⟨g, cap, cur, rfl, _⟩⟩ := h2
  · exact ⟨none, 0, by rw [h0], hm, fun i hi => by omega⟩
  · refine ⟨some ⟨g, 0, none⟩, cap, rfl, hm, fun i hi => ⟨g, 0, css[i]'(by omega), rfl, .inr rfl, fun j u hu => ?_, sh.keep (fun b hb => .inl hb) (fun b o _ => rfl) (h3 i hi (by omega))⟩⟩
    have hj : j < sh.k := by
      have := (List.getElem?_eq_some_iff.1 hu).1
      rwa [hk _ (List.getElem_mem _)] at this
    have := hc g rfl (i * sh.k + j) u (by rw [Pak.flatten_get hk i j (by omega) hj]; exact hu)
    rwa [show (⟨g, 0, none⟩ : Addr).add (i * sh.k + j) = ⟨g, 0 + i * sh.k + j, none⟩ by unfold Addr.add; split <;> simp_all] at this
end
/-- A form's terms lie in blocks of S. -/
def LiesS (S : Nat → Prop) (w : World) (a : Option Addr) (l : List (Int × Int)) : Prop :=
  ∀ i, i < l.length → ∃ b off, a = some ⟨b, off, none⟩ ∧ S b ∧ w.cell? ⟨b, off + i * 2, none⟩ = some (.int .i64 (l.getD i (0, 0)).1) ∧ w.cell? ⟨b, off + i * 2 + 1, none⟩ = some (.int .i64 (l.getD i (0, 0)).2)
/-- A form. -/
def linSh : Pak.Sh (Int × List (Int × Int)) where
  k := 2
  rel := fun S w cs x => ∃ ta tcap, cs = [.int .i64 x.1, .slice ta x.2.length tcap] ∧ LiesS S w ta x.2
  len := fun h => by obtain ⟨_, _, rfl, _⟩ := h; rfl
  one := fun h u hu => by
    obtain ⟨_, _, rfl, _⟩ := h
    simp at hu
    rcases hu with rfl | rfl <;> rfl
  keep := fun hS hk h => by
    obtain ⟨ta, tcap, rfl, h⟩ := h
    exact ⟨ta, tcap, rfl, fun i hi => by
      obtain ⟨b, off, e, hb, h1, h2⟩ := h i hi
      exact ⟨b, off, e, hS b hb, (hk b _ hb).trans h1, (hk b _ hb).trans h2⟩⟩
theorem LiesS.lies {S : Nat → Prop} {w : World} {a : Option Addr} {l : List (Int × Int)} {B : Nat} (h : LiesS S w a l) (hS : ∀ b, S b → b < B) : Lies B w a l := fun i hi => by
  obtain ⟨b, off, e, hb, h1, h2⟩ := h i hi
  exact ⟨b, off, e, hS b hb, h1, h2⟩
theorem Lies.liesS {B : Nat} {w : World} {a : Option Addr} {l : List (Int × Int)} (h : Lies B w a l) : LiesS (fun b => b < B) w a l := h
/-- Ints, clauses that lie. -/
theorem nums_of {S : Nat → Prop} {w : World} {a : Option Addr} {xs : List Int} {B : Nat} (h : Pak.Sits Pak.intSh S w a xs) (hS : ∀ b, S b → b < B) : Prp.Nums B w a xs := fun i hi => by
  obtain ⟨b, off, cs, e, hb, hc, rfl, _⟩ := h.2 i hi
  refine ⟨b, off, e, hS b hb, ?_⟩
  have := hc 0 _ rfl
  have e1 : Pak.intSh.k = 1 := rfl
  rw [e1, Nat.mul_one, Nat.add_zero] at this
  rw [this, List.getD_eq_getElem?_getD, List.getElem?_eq_getElem hi, Option.getD_some]
theorem clies_of {S : Nat → Prop} {w : World} {a : Option Addr} {cs : List (List Int)} {B : Nat} (h : Pak.Sits Pak.clauseSh S w a cs) (hS : ∀ b, S b → b < B) : Prp.CLies B w a cs := fun i hi => by
  obtain ⟨b, off, us, e, hb, hc, v, rfl, ta, cap, rfl, hn⟩ := h.2 i hi
  have e1 : Pak.clauseSh.k = 1 := rfl
  have := hc 0 _ rfl
  rw [e1, Nat.mul_one, Nat.add_zero] at this
  rw [List.getD_eq_getElem?_getD, List.getElem?_eq_getElem hi, Option.getD_some]
  exact ⟨b, off, ta, cap, e, hS b hb, this, nums_of hn hS⟩
end Go.Proofs.YtelndcmfddbgiaaDoor
