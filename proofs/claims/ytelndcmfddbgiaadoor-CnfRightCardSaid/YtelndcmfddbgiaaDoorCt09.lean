/- Rows of the call's own whose things lie in blocks of S; forms, clauses in rows. The maker: its clauses. -/
import Derived.Test.YtelndcmfddbgiaaDoorCt01
import Derived.Test.YtelndcmfddbgiaaDoorCt04
import Derived.Test.YtelndcmfddbgiaaDoorCt05
import Derived.Test.YtelndcmfddbgiaaDoorCt08
set_option linter.unusedVariables false
set_option linter.unusedSimpArgs false
set_option linter.unusedVariables false
set_option linter.unusedSimpArgs false
namespace Go.Proofs.YtelndcmfddbgiaaDoor
set_option maxRecDepth 100000
open Go.RowKit

section
variable {T : Type}
/-- A row of the call's own, its things in blocks of S. -/
structure OwnP (sh : Pak.Sh T) (e : TypeId) (B : Nat) (S : Nat → Prop) (xs : List T) (v : Value) (w : World) : Prop where
  row : ∃ css : List (List Value), css.length = xs.length ∧ w.ownsRow B e sh.k v xs.length css.flatten ∧ ∀ i (h : i < xs.length) (h2 : i < css.length), sh.rel S w css[i] xs[i]
  ok : ∀ b, S b → b < w.heap.size ∧ v.ownBlock ≠ some b
theorem OwnP.nil (sh : Pak.Sh T) (e : TypeId) (B : Nat) (w : World) : OwnP sh e B (fun _ => False) [] (.slice none 0 0) w := ⟨⟨[], rfl, World.ownsRow_nil _ _ _ _, fun i hi => absurd hi (Nat.not_lt_zero i)⟩, fun b h => h.elim⟩
theorem OwnP.lt {sh : Pak.Sh T} {e : TypeId} {B : Nat} {S : Nat → Prop} {xs : List T} {v : Value} {w : World} (h : OwnP sh e B S xs v w) : ∀ q, v.ownBlock = some q → B ≤ q ∧ q < w.heap.size := fun q hq => by
  obtain ⟨css, h1, h2, h3⟩ := h.row
  exact World.ownsRow.lt h2 q hq
theorem OwnP.form {sh : Pak.Sh T} {e : TypeId} {B : Nat} {S : Nat → Prop} {xs : List T} {v : Value} {w : World} (h : OwnP sh e B S xs v w) : ∃ a cap, v = .slice a xs.length cap := by
  obtain ⟨css, h1, h2, h3⟩ := h.row
  exact Pak.own_slice h2
theorem OwnP.nf {sh : Pak.Sh T} {e : TypeId} {B : Nat} {S : Nat → Prop} {xs : List T} {v : Value} {w : World} (h : OwnP sh e B S xs v w) : ∀ q, v.ownBlock = some q → ∀ o, w.frozen? ⟨q, o, none⟩ = false := fun q hq o => by
  obtain ⟨css, h1, h2, h3⟩ := h.row
  obtain ⟨_, ⟨rfl, _⟩ | ⟨g, cap, cur, rfl, _, hh, _⟩⟩ := h2
  · cases hq
  · injection hq with hq
    subst hq
    exact frozen_of_row _ _ _ _ _ hh
/-- It stands while other blocks are written. -/
theorem OwnP.keep {sh : Pak.Sh T} {e : TypeId} {B : Nat} {S : Nat → Prop} {xs : List T} {v : Value} {w w' : World} (h : OwnP sh e B S xs v w) (hsz : w.heap.size ≤ w'.heap.size) (hk : ∀ q, (S q ∨ v.ownBlock = some q) → w'.heap[q]? = w.heap[q]?) : OwnP sh e B S xs v w' := by
  obtain ⟨css, h1, h2, h3⟩ := h.row
  refine ⟨⟨css, h1, ?_, fun i hi hi2 => sh.keep (fun b hb => hb) (fun b o hb => World.cell?_of_block (hk b (.inl hb))) (h3 i hi hi2)⟩, fun b hb => ⟨Nat.lt_of_lt_of_le (h.ok b hb).1 hsz, (h.ok b hb).2⟩⟩
  obtain ⟨hl, h0 | ⟨g, cap, cur, hv, hb, hh, r⟩⟩ := h2
  · exact ⟨hl, .inl h0⟩
  · exact ⟨hl, .inr ⟨g, cap, cur, hv, hb, by rw [hk g (.inr (by rw [hv]; rfl))]; exact hh, r⟩⟩
theorem OwnP.below {sh : Pak.Sh T} {e : TypeId} {B : Nat} {S : Nat → Prop} {xs : List T} {v : Value} {w w' : World} (h : OwnP sh e B S xs v w) (hb : Below w.heap.size w w') : OwnP sh e B S xs v w' :=
  h.keep hb.size (fun q hq => hb.block q (by
    rcases hq with hq | hq
    · exact (h.ok q hq).1
    · exact (h.lt q hq).2))
theorem OwnP.grown {sh : Pak.Sh T} {e : TypeId} {B : Nat} {S : Nat → Prop} {xs : List T} {v : Value} {w w' : World} {row : Option Nat} (h : OwnP sh e B S xs v w) (hg : w.grownBy w' row) (hr : ∀ q, row = some q → ¬ S q ∧ v.ownBlock ≠ some q) : OwnP sh e B S xs v w' :=
  h.keep hg.size (fun q hq => hg.block q (by
    rcases hq with hq | hq
    · exact (h.ok q hq).1
    · exact (h.lt q hq).2) (fun e => by
    rcases hq with hq | hq
    · exact (hr q e.symm).1 hq
    · exact (hr q e.symm).2 hq))
theorem OwnP.keptW {sh : Pak.Sh T} {e : TypeId} {B M : Nat} {r : Option Nat} {S : Nat → Prop} {xs : List T} {v : Value} {w w' : World} (h : OwnP sh e B S xs v w) (hk : Pak.KeptW M r w w') (hM : ¬ S M ∧ v.ownBlock ≠ some M) (hr : ∀ q, r = some q → ¬ S q ∧ v.ownBlock ≠ some q) : OwnP sh e B S xs v w' :=
  h.keep hk.size (fun q hq => hk.block q (by
    rcases hq with hq | hq
    · exact (h.ok q hq).1
    · exact (h.lt q hq).2) (fun e => by
    subst e
    rcases hq with hq | hq
    · exact hM.1 hq
    · exact hM.2 hq) (fun e => by
    rcases hq with hq | hq
    · exact (hr q e.symm).1 hq
    · exact (hr q e.symm).2 hq))
theorem OwnP.more {sh : Pak.Sh T} {e : TypeId} {B : Nat} {S S' : Nat → Prop} {xs : List T} {v : Value} {w : World} (h : OwnP sh e B S xs v w) (hS : ∀ b, S b → S' b) (hok : ∀ b, S' b → b < w.heap.size ∧ v.ownBlock ≠ some b) : OwnP sh e B S' xs v w := by
  obtain ⟨css, h1, h2, h3⟩ := h.row
  exact ⟨⟨css, h1, h2, fun i hi hi2 => sh.keep hS (fun b o hb => rfl) (h3 i hi hi2)⟩, hok⟩
/-- append(own, T{..}). -/
theorem OwnP.put {P : Program} {sh : Pak.Sh T} {t e : TypeId} {B : Nat} {S Sx : Nat → Prop} {xs : List T} {x : T} {v : Value} {w : World} {cs : List Value} (ht : P.underlying t = some (.slice e)) {by' : Nat} (hin : (P.info? e).map (fun i => (i.zero.map fun z => z.cells.size, i.size, i.bytes)) = some (some sh.k, sh.k, by')) (hk : 0 < sh.k) (hby : by' ≤ 100)
    (h : OwnP sh e B S xs v w) (hn : xs.length ≤ 4194304) (hB : B ≤ w.heap.size) (hx : sh.rel Sx w cs x) (hSx : ∀ b, Sx b → b < w.heap.size ∧ v.ownBlock ≠ some b) :
    ∃ v6 w6, (∀ ty, (Builtin.append_ #[t, t] ty #[v, .slice (some ⟨w.heap.size, 0, none⟩) 1 1]).run P (w.alloc (.cells cs.toArray e)) = .ok v6 w6) ∧ OwnP sh e B (fun b => S b ∨ Sx b) (xs ++ [x]) v6 w6 ∧ w.grownBy w6 v.ownBlock ∧ (v6.ownBlock = v.ownBlock ∨ ∃ q, v6.ownBlock = some q ∧ w.heap.size ≤ q) := by
  have hA : Below w.heap.size w (w.alloc (.cells cs.toArray e)) := (Below.refl _ w).alloc (Nat.le_refl _) _
  obtain ⟨css, h1, h2, h3⟩ := (h.below hA).row
  obtain ⟨i0, hi, hz, hs, hb⟩ : ∃ i0, P.info? e = some i0 ∧ (∃ z, i0.zero = some z ∧ z.cells.size = sh.k) ∧ i0.size = sh.k ∧ i0.bytes = by' := by
    cases hp : P.info? e with
    | none => rw [hp] at hin; cases hin
    | some i =>
      rw [hp] at hin
      simp at hin
      obtain ⟨⟨z, a1, a2⟩, a3, a4⟩ := hin
      exact ⟨i, rfl, ⟨z, a1, a2⟩, a3, a4⟩
  obtain ⟨z, hz1, hz2⟩ := hz
  have hlen := sh.len hx
  have hrun := fun ty => run_append_own_at (P := P) (w.alloc (.cells cs.toArray e)) B t ty e i0 z sh.k by' ht hi hz1 hs hb hz2 hk v xs.length css.flatten h2 ⟨w.heap.size, 0, none⟩ 1 1 cs (by rw [hlen]; omega) (by
    have := World.news_of_block (heap_alloc_new w (.cells cs.toArray e))
    simpa using this) (sh.one hx) (by unfold maxLen; omega) (by
    have : (xs.length + 1) * by' ≤ (4194304 + 1) * 100 := Nat.mul_le_mul (by omega) hby
    omega) (Nat.le_trans hB hA.size)
  obtain ⟨v6, w6, hr, k2, k3, _, k5⟩ := hrun t
  have hvb := h.lt
  have hkeep : ∀ b o, b < w.heap.size → v.ownBlock ≠ some b → w6.cell? ⟨b, o, none⟩ = w.cell? ⟨b, o, none⟩ := fun b o hb hne => (World.cell?_of_block (k3.block b (Nat.lt_of_lt_of_le hb hA.size) (fun e => hne e.symm))).trans (hA.cell (p := ⟨b, o, none⟩) hb)
  have hsz : w.heap.size ≤ w6.heap.size := Nat.le_trans hA.size k3.size
  have k6 : v6.ownBlock = v.ownBlock ∨ ∃ q, v6.ownBlock = some q ∧ w.heap.size ≤ q := by
    rcases k5 with k5 | k5
    · exact .inl k5
    · exact .inr ⟨_, k5, hA.size⟩
  have hne6 : ∀ b, b < w.heap.size → v.ownBlock ≠ some b → v6.ownBlock ≠ some b := fun b hb hne e => by
    rcases k6 with k5 | ⟨q, k5, hq⟩
    · exact hne (k5.symm.trans e)
    · rw [k5] at e
      injection e with e
      omega
  refine ⟨v6, w6, fun ty => hr, ⟨⟨css ++ [cs], by simp [h1], ?_, fun i hi hi2 => ?_⟩, fun b hb => ?_⟩, ⟨k3.os.trans hA.os, k3.tape.trans hA.tape, k3.output.trans hA.output, hsz, fun q hq hne => (k3.block q (Nat.lt_of_lt_of_le hq hA.size) hne).trans (hA.block q hq)⟩, k6⟩
  · rw [List.length_append, List.flatten_append]
    simpa using k2
  · by_cases hlt : i < xs.length
    · rw [List.getElem_append_left hlt, List.getElem_append_left (by omega)]
      have h3' := h3 i hlt (by omega)
      exact sh.keep (fun b hb => .inl hb) (fun b o hb => World.cell?_of_block (k3.block b (Nat.lt_of_lt_of_le (h.ok b hb).1 hA.size) (fun e => (h.ok b hb).2 e.symm))) h3'
    · have hi' : i = xs.length := by simp at hi; omega
      subst hi'
      simp only [List.getElem_concat_length]
      have e2 : (css ++ [cs])[xs.length]'hi2 = cs := by simp only [← h1, List.getElem_concat_length]
      rw [e2]
      exact sh.keep (fun b hb => .inr hb) (fun b o hb => hkeep b o (hSx b hb).1 (hSx b hb).2) hx
  · have h6 : b < w.heap.size ∧ v.ownBlock ≠ some b := by
      rcases hb with hb | hb
      · exact h.ok b hb
      · exact hSx b hb
    exact ⟨Nat.lt_of_lt_of_le h6.1 hsz, hne6 b h6.1 h6.2⟩
theorem OwnP.slot {sh : Pak.Sh T} {e : TypeId} {B : Nat} {S : Nat → Prop} {xs : List T} {v : Value} {w : World} (h : OwnP sh e B S xs v w) (hm : xs.length ≤ 9223372036854775807) : Pak.Slot sh (fun b => S b ∨ v.ownBlock = some b) w v xs := by
  obtain ⟨css, h1, h2, h3⟩ := h.row
  have hk : ∀ cs ∈ css, cs.length = sh.k := fun cs hc => by
    obtain ⟨i, hi, rfl⟩ := List.getElem_of_mem hc
    exact sh.len (h3 i (by omega) hi)
  have hc := fun g => World.ownsRow.cells h2 (g := g)
  obtain ⟨_, ⟨rfl, h0⟩ | ⟨g, cap, cur, rfl, _⟩⟩ := h2
  · exact ⟨none, 0, by rw [h0], hm, fun i hi => by omega⟩
  · refine ⟨some ⟨g, 0, none⟩, cap, rfl, hm, fun i hi => ⟨g, 0, css[i]'(by omega), rfl, .inr rfl, fun j u hu => ?_, sh.keep (fun b hb => .inl hb) (fun b o _ => rfl) (h3 i hi (by omega))⟩⟩
    have hj : j < sh.k := by
      have := (List.getElem?_eq_some_iff.1 hu).1
      rwa [hk _ (List.getElem_mem _)] at this
    have := hc g rfl (i * sh.k + j) u (by rw [Pak.flatten_get hk i j (by omega) hj]; exact hu)
    rwa [show (⟨g, 0, none⟩ : Addr).add (i * sh.k + j) = ⟨g, 0 + i * sh.k + j, none⟩ by unfold Addr.add; split <;> simp_all] at this
end
/-- A form's terms lie in blocks of S. -/
def LiesS (S : Nat → Prop) (w : World) (a : Option Addr) (l : List (Int × Int)) : Prop :=
  ∀ i, i < l.length → ∃ b off, a = some ⟨b, off, none⟩ ∧ S b ∧ w.cell? ⟨b, off + i * 2, none⟩ = some (.int .i64 (l.getD i (0, 0)).1) ∧ w.cell? ⟨b, off + i * 2 + 1, none⟩ = some (.int .i64 (l.getD i (0, 0)).2)
/-- A form. -/
def linSh : Pak.Sh (Int × List (Int × Int)) where
  k := 2
  rel := fun S w cs x => ∃ ta tcap, cs = [.int .i64 x.1, .slice ta x.2.length tcap] ∧ LiesS S w ta x.2
  len := fun h => by obtain ⟨_, _, rfl, _⟩ := h; rfl
  one := fun h u hu => by
    obtain ⟨_, _, rfl, _⟩ := h
    simp at hu
    rcases hu with rfl | rfl <;> rfl
  keep := fun hS hk h => by
    obtain ⟨ta, tcap, rfl, h⟩ := h
    exact ⟨ta, tcap, rfl, fun i hi => by
      obtain ⟨b, off, e, hb, h1, h2⟩ := h i hi
      exact ⟨b, off, e, hS b hb, (hk b _ hb).trans h1, (hk b _ hb).trans h2⟩⟩
theorem LiesS.lies {S : Nat → Prop} {w : World} {a : Option Addr} {l : List (Int × Int)} {B : Nat} (h : LiesS S w a l) (hS : ∀ b, S b → b < B) : Lies B w a l := fun i hi => by
  obtain ⟨b, off, e, hb, h1, h2⟩ := h i hi
  exact ⟨b, off, e, hS b hb, h1, h2⟩
theorem Lies.liesS {B : Nat} {w : World} {a : Option Addr} {l : List (Int × Int)} (h : Lies B w a l) : LiesS (fun b => b < B) w a l := h
/-- Ints, clauses that lie. -/
theorem nums_of {S : Nat → Prop} {w : World} {a : Option Addr} {xs : List Int} {B : Nat} (h : Pak.Sits Pak.intSh S w a xs) (hS : ∀ b, S b → b < B) : Prp.Nums B w a xs := fun i hi => by
  obtain ⟨b, off, cs, e, hb, hc, rfl, _⟩ := h.2 i hi
  refine ⟨b, off, e, hS b hb, ?_⟩
  have := hc 0 _ rfl
  have e1 : Pak.intSh.k = 1 := rfl
  rw [e1, Nat.mul_one, Nat.add_zero] at this
  rw [this, List.getD_eq_getElem?_getD, List.getElem?_eq_getElem hi, Option.getD_some]
theorem clies_of {S : Nat → Prop} {w : World} {a : Option Addr} {cs : List (List Int)} {B : Nat} (h : Pak.Sits Pak.clauseSh S w a cs) (hS : ∀ b, S b → b < B) : Prp.CLies B w a cs := fun i hi => by
  obtain ⟨b, off, us, e, hb, hc, v, rfl, ta, cap, rfl, hn⟩ := h.2 i hi
  have e1 : Pak.clauseSh.k = 1 := rfl
  have := hc 0 _ rfl
  rw [e1, Nat.mul_one, Nat.add_zero] at this
  rw [List.getD_eq_getElem?_getD, List.getElem?_eq_getElem hi, Option.getD_some]
  exact ⟨b, off, ta, cap, e, hS b hb, this, nums_of hn hS⟩
end Go.Proofs.YtelndcmfddbgiaaDoor

set_option linter.unusedVariables false
set_option linter.unusedSimpArgs false
namespace Go.Proofs.YtelndcmfddbgiaaDoor
set_option maxRecDepth 100000
open Go.RowKit

/-- The maker while clauses are made. -/
structure LS (M K mp : Nat) (av : Value) (N : Nat) (cl : List (List Int)) (r : Option Nat) (S : Nat → Prop) (w : World) : Prop where
  c0 : w.cell? ⟨M, 0, none⟩ = some (.int .i64 N)
  c1 : w.cell? ⟨M, 1, none⟩ = some av
  ex : ∃ v, w.cell? ⟨M, 2, none⟩ = some v ∧ v.ownBlock = r ∧ OwnP Pak.clauseSh 45 K S cl v w
  lo : ∀ b, S b → K ≤ b
  c3 : w.cell? ⟨M, 3, none⟩ = some (.map (some mp))
  fz : ∀ j, w.frozen? ⟨M, j, none⟩ = false
  lt : M < K ∧ K ≤ w.heap.size
  nf : ∀ b, S b → ∀ o, w.frozen? ⟨b, o, none⟩ = false
def LTo (M K mp : Nat) (av : Value) (N : Nat) (cl : List (List Int)) (r : Option Nat) (S' : Nat → Prop) (w w' : World) : Prop := ∃ r', LS M K mp av N cl r' S' w' ∧ (r' = r ∨ ∃ q, r' = some q ∧ w.heap.size ≤ q) ∧ Pak.KeptW M r w w'
theorem keptW_trans {M : Nat} {r r' : Option Nat} {w w1 w2 : World} (hr : r' = r ∨ ∃ q, r' = some q ∧ w.heap.size ≤ q) (h : Pak.KeptW M r w w1) (k : Pak.KeptW M r' w1 w2) : Pak.KeptW M r w w2 :=
  ⟨k.os.trans h.os, k.tape.trans h.tape, k.output.trans h.output, Nat.le_trans h.size k.size, fun q hq h1 h2 => (k.block q (Nat.lt_of_lt_of_le hq h.size) h1 (fun e => by
    rcases hr with rfl | ⟨p, rfl, hp⟩
    · exact h2 e
    · injection e with e; omega)).trans (h.block q hq h1 h2)⟩
theorem next_trans {r r' r2 : Option Nat} {w w1 : World} (hr : r' = r ∨ ∃ q, r' = some q ∧ w.heap.size ≤ q) (hs : w.heap.size ≤ w1.heap.size) (k : r2 = r' ∨ ∃ q, r2 = some q ∧ w1.heap.size ≤ q) : r2 = r ∨ ∃ q, r2 = some q ∧ w.heap.size ≤ q := by
  rcases k with rfl | ⟨q, rfl, hq⟩
  · exact hr
  · exact .inr ⟨q, rfl, by omega⟩
section
variable {M K mp : Nat} {av : Value} {N : Nat} {cl : List (List Int)} {r r' : Option Nat} {S : Nat → Prop} {w w1 w2 w' : World}
theorem LTo.refl (h : LS M K mp av N cl r S w) : LTo M K mp av N cl r S w w := ⟨r, h, .inl rfl, .of_below (Below.refl _ _)⟩
theorem LTo.trans (hr : r' = r ∨ ∃ q, r' = some q ∧ w.heap.size ≤ q) (h : Pak.KeptW M r w w1) (k : LTo M K mp av N cl r' S w1 w2) : LTo M K mp av N cl r S w w2 := by
  obtain ⟨r2, k1, k2, k3⟩ := k
  exact ⟨r2, k1, next_trans hr h.size k2, keptW_trans hr h k3⟩
theorem LS.size (h : LS M K mp av N cl r S w) : M < w.heap.size := Nat.lt_of_lt_of_le h.lt.1 h.lt.2
/-- It stands where other blocks are written. -/
theorem LS.keep (h : LS M K mp av N cl r S w) (hsz : w.heap.size ≤ w'.heap.size) (hM : w'.heap[M]? = w.heap[M]?) (hk : ∀ q, (S q ∨ r = some q) → w'.heap[q]? = w.heap[q]?) : LS M K mp av N cl r S w' := by
  obtain ⟨v, h1, h2, h3⟩ := h.ex
  have c := fun j => World.cell?_of_block (a := ⟨M, j, none⟩) hM
  exact ⟨(c 0).trans h.c0, (c 1).trans h.c1, ⟨v, (c 2).trans h1, h2, h3.keep hsz (fun q hq => hk q (by rw [← h2]; exact hq))⟩, h.lo, (c 3).trans h.c3, fun j => (World.frozen?_of_block (a := ⟨M, j, none⟩) hM).trans (h.fz j), ⟨h.lt.1, Nat.le_trans h.lt.2 hsz⟩, fun b hb o => (World.frozen?_of_block (a := ⟨b, o, none⟩) (hk b (.inl hb))).trans (h.nf b hb o)⟩
theorem LS.row (h : LS M K mp av N cl r S w) : ∀ q, r = some q → K ≤ q ∧ q < w.heap.size ∧ ¬ S q := fun q hq => by
  obtain ⟨v, h1, h2, h3⟩ := h.ex
  exact ⟨(h3.lt q (h2.trans hq)).1, (h3.lt q (h2.trans hq)).2, fun hs => (h3.ok q hs).2 (h2.trans hq)⟩
theorem LS.ok (h : LS M K mp av N cl r S w) : ∀ b, S b → b < w.heap.size := fun b hb => by
  obtain ⟨v, h1, h2, h3⟩ := h.ex
  exact (h3.ok b hb).1
theorem LS.below (h : LS M K mp av N cl r S w) (hb : Below w.heap.size w w') : LS M K mp av N cl r S w' :=
  h.keep hb.size (hb.block M h.size) (fun q hq => hb.block q (by
    rcases hq with hq | hq
    · exact h.ok q hq
    · exact (h.row q hq).2.1))
/-- A row of another's grows. -/
theorem LS.grown (h : LS M K mp av N cl r S w) {row : Option Nat} (hg : w.grownBy w' row) (hr : ∀ q, row = some q → q ≠ M ∧ ¬ S q ∧ r ≠ some q) : LS M K mp av N cl r S w' :=
  h.keep hg.size (hg.block M h.size (fun e => (hr M e.symm).1 rfl)) (fun q hq => hg.block q (by
    rcases hq with hq | hq
    · exact h.ok q hq
    · exact (h.row q hq).2.1) (fun e => by
    rcases hq with hq | hq
    · exact (hr q e.symm).2.1 hq
    · exact (hr q e.symm).2.2 hq))
theorem LTo.below (h : LTo M K mp av N cl r S w w1) (hb : Below w1.heap.size w1 w2) : LTo M K mp av N cl r S w w2 := by
  obtain ⟨r2, k1, k2, k3⟩ := h
  exact ⟨r2, k1.below hb, k2, keptW_trans k2 k3 (.of_below hb)⟩
/-- What lies below the maker stands. -/
theorem LS.low (hs : LS M K mp av N cl r S w) (k3 : Pak.KeptW M r w w') : Below M w w' := by
  have h1 := hs.lt
  exact ⟨k3.os, k3.tape, k3.output, k3.size, fun q hq => k3.block q (by omega) (by omega) (fun e => by have := hs.row q e.symm; omega)⟩
theorem grown_set {j : Nat} (v : Value) : w.grownBy (w.setCell ⟨M, j, none⟩ v) (some M) := ⟨rfl, rfl, rfl, by simp [World.setCell], fun q hq hn => Below.heap_setCell _ _ _ _ (fun e => hn (by rw [e]))⟩
/-- The number of variables is stored. -/
theorem LS.count (h : LS M K mp av N cl r S w) (n : Nat) : LTo M K mp av n cl r S w (w.setCell ⟨M, 0, none⟩ (.int .i64 n)) := by
  obtain ⟨v, h1, h2, h3⟩ := h.ex
  have hsz : (w.setCell ⟨M, 0, none⟩ (.int .i64 n)).heap.size = w.heap.size := by simp [World.setCell]
  have hl := h.lt
  refine ⟨r, ⟨World.cell?_setCell_same' _ _ _ (by rw [h.c0]; rfl), (World.cell?_setCell_other w ⟨M, 0, none⟩ ⟨M, 1, none⟩ _ (by simp)).trans h.c1, ⟨v, (World.cell?_setCell_other w ⟨M, 0, none⟩ ⟨M, 2, none⟩ _ (by simp)).trans h1, h2, h3.grown (grown_set _) (fun q hq => ?_)⟩, h.lo, (World.cell?_setCell_other w ⟨M, 0, none⟩ ⟨M, 3, none⟩ _ (by simp)).trans h.c3, fun j => by rw [World.frozen?_setCell]; exact h.fz j, ⟨hl.1, by rw [hsz]; exact hl.2⟩, fun b hb o => by rw [World.frozen?_setCell]; exact h.nf b hb o⟩, .inl rfl, ⟨rfl, rfl, rfl, Nat.le_of_eq hsz.symm, fun q hq h1 h2 => Below.heap_setCell _ _ _ _ h1⟩⟩
  injection hq with hq
  subst hq
  exact ⟨fun hb => by have := h.lo M hb; omega, fun e => by have := (h3.lt M e).1; omega⟩
/-- A clause is added. -/
theorem LS.add {a : Option Addr} {cap : Nat} {xs : List Int} {Sx : Nat → Prop} (h : LS M K mp av N cl r S w) (hn : cl.length ≤ 4194304) (hx : Pak.Sits Pak.intSh Sx w a xs) (hSx : ∀ b, Sx b → K ≤ b ∧ b < w.heap.size ∧ r ≠ some b) (hNx : ∀ b, Sx b → ∀ o, w.frozen? ⟨b, o, none⟩ = false) :
    ∃ v a6 n6 c6 w6, w.cell? ⟨M, 2, none⟩ = some v ∧ (∀ ty, (Builtin.append_ #[31, 31] ty #[v, .slice (some ⟨w.heap.size, 0, none⟩) 1 1]).run Tryd.prog (w.alloc (.cells #[.slice a xs.length cap] 45)) = .ok (.slice a6 n6 c6) w6) ∧ w6.cell? ⟨M, 2, none⟩ = some v ∧ w6.frozen? ⟨M, 2, none⟩ = false ∧ LTo M K mp av N (cl ++ [xs]) r (fun b => S b ∨ Sx b) w (w6.setCell ⟨M, 2, none⟩ (.slice a6 n6 c6)) := by
  obtain ⟨v, h1, h2, h3⟩ := h.ex
  have h4 := h.lo
  have hl := h.lt
  obtain ⟨v6, w6, hr, k1, k2, k3⟩ := h3.put (P := Tryd.prog) (t := 31) (x := xs) (cs := [.slice a xs.length cap]) (Sx := Sx) Tryd.underlying31 (by' := 24) (by kernel_rfl) (by decide) (by decide) hn hl.2 ⟨_, rfl, a, cap, rfl, hx⟩ (fun b hb => ⟨(hSx b hb).2.1, by rw [h2]; exact (hSx b hb).2.2⟩)
  have hrM : v.ownBlock ≠ some M := fun e => by have := (h3.lt M e).1; omega
  have hlt : M < w.heap.size := by omega
  have hg6 : w6.heap[M]? = w.heap[M]? := k2.block M hlt (fun e => hrM e.symm)
  have c := fun j => World.cell?_of_block (a := ⟨M, j, none⟩) hg6
  have hs6 := k2.size
  have hsz : (w6.setCell ⟨M, 2, none⟩ v6).heap.size = w6.heap.size := by simp [World.setCell]
  have k4 : ∀ b, S b ∨ Sx b → K ≤ b := fun b hb => by
    rcases hb with hb | hb
    · exact h4 b hb
    · exact (hSx b hb).1
  have hv6 : ∀ q, v6.ownBlock = some q → K ≤ q := fun q hq => (k1.lt q hq).1
  obtain ⟨a6, c6, e6⟩ := k1.form
  generalize (cl ++ [xs]).length = n6 at e6
  subst e6
  refine ⟨v, a6, n6, c6, w6, h1, hr, (c 2).trans h1, (World.frozen?_of_block (a := ⟨M, 2, none⟩) hg6).trans (h.fz 2), Value.ownBlock (.slice a6 n6 c6), ⟨(World.cell?_setCell_other w6 ⟨M, 2, none⟩ ⟨M, 0, none⟩ _ (by simp)).trans ((c 0).trans h.c0), (World.cell?_setCell_other w6 ⟨M, 2, none⟩ ⟨M, 1, none⟩ _ (by simp)).trans ((c 1).trans h.c1), ⟨_, World.cell?_setCell_same' _ _ _ (by rw [c 2, h1]; rfl), rfl, k1.grown (grown_set _) (fun q hq => ?_)⟩, k4, (World.cell?_setCell_other w6 ⟨M, 2, none⟩ ⟨M, 3, none⟩ _ (by simp)).trans ((c 3).trans h.c3), fun j => ?_, ⟨hl.1, by omega⟩, fun b hb o => ?_⟩, by rw [← h2]; exact k3, ⟨k2.os, k2.tape, k2.output, by omega, fun q hq h5 h6 => ?_⟩⟩
  · injection hq with hq
    subst hq
    exact ⟨fun hb => by have := k4 M hb; omega, fun e => by have := hv6 M e; omega⟩
  · rw [World.frozen?_setCell, World.frozen?_of_block (a := ⟨M, j, none⟩) hg6]
    exact h.fz j
  · have hbz : b < w.heap.size ∧ v.ownBlock ≠ some b := by
      rcases hb with hb | hb
      · exact h3.ok b hb
      · exact ⟨(hSx b hb).2.1, by rw [h2]; exact (hSx b hb).2.2⟩
    rw [World.frozen?_setCell, World.frozen?_of_block (a := ⟨b, o, none⟩) (k2.block b hbz.1 (fun e => hbz.2 e.symm))]
    rcases hb with hb | hb
    · exact h.nf b hb o
    · exact hNx b hb o
  · rw [Below.heap_setCell _ _ _ _ h5, k2.block q hq (by rw [h2]; exact h6)]
end
def LEnd (M K mp : Nat) (av : Value) (N : Nat) (cl : List (List Int)) (r : Option Nat) (S' : Nat → Prop) (w : World) (e : Ending) (w' : World) : Prop := e = .returned (.tuple #[]) ∧ LTo M K mp av N cl r S' w w'
set_option maxHeartbeats 2000000 in
theorem clause_any (M K mp : Nat) (av : Value) (N : Nat) (cl : List (List Int)) (r : Option Nat) (w : World) (a : Option Addr) (n cap : Nat) (xs : List Int) (S Sx : Nat → Prop) (h : LS M K mp av N cl r S w) (hn : cl.length ≤ 4194304) (hxn : xs.length = n) (hx : Pak.Sits Pak.intSh Sx w a xs) (hSx : ∀ b, Sx b → K ≤ b ∧ b < w.heap.size ∧ r ≠ some b) (hNx : ∀ b, Sx b → ∀ o, w.frozen? ⟨b, o, none⟩ = false) :
    Calls Tryd.prog 23 #[.pointer (some ⟨M, 0, none⟩), .slice a n cap] w (LEnd M K mp av N (cl ++ [xs]) r (fun b => S b ∨ Sx b) w) := by
  obtain ⟨v, a6, n6, c6, w6, h1, hr, h2, h3, h4⟩ := h.add (cap := cap) hn hx hSx hNx
  rw [hxn] at hr
  have H4 := Lib.hid h4
  clear h hn hx hSx hNx h4
  go_enter Tryd.func23, Tryd.ntmps23
  go_wp2_with (at_builtin; refine Lib.wpList_append_run _ rfl _ _ _ _ rfl _ _ rfl rfl _ _ (hr _) ?_)
  go_end0
  exact ⟨rfl, H4.out⟩
end Go.Proofs.YtelndcmfddbgiaaDoor
