/- The document's reader: Read. -/
import Derived.Test.YtgaipfkblfommaaPakZr
import Derived.Test.YtgaipfkblfommaaPakUe
set_option linter.unusedVariables false
set_option linter.unusedSimpArgs false
namespace Go.Proofs.Ytgaipfkblfommaa
set_option maxRecDepth 100000
open Go.RowKit

theorem name_many (l : List UInt8) : pName l = (pMany l).map fun q => ((⟨(q.2.take q.1).toArray⟩ : ByteArray), q.2.drop q.1) := by
  unfold pName pMany
  cases pNum l with
  | none => rfl
  | some q =>
    show pText q.1 q.2 = Option.map _ (if 0 ≤ q.1 ∧ q.1 ≤ q.2.length then some (q.1.toNat, q.2) else none)
    unfold pText
    by_cases h : 0 ≤ q.1 ∧ q.1 ≤ q.2.length
    · rw [if_pos h, if_pos h]; rfl
    · rw [if_neg h, if_neg h]; rfl
theorem name_end {g : Nat} {l r : List UInt8} {n at' : Nat} {bad : Bool} {w : World} (hb : Beh l ((some r).bind pMany) n at' bad) (hd : DR g l (at' + n) bad w) : DRt g l (nxt pName (some r)) w ∧ ∀ y r', (some r).bind pName = some (y, r') → (⟨((l.drop at').take n).toArray⟩ : ByteArray) = y := by
  have e : (some r).bind pName = (pMany r).map fun q => ((⟨(q.2.take q.1).toArray⟩ : ByteArray), q.2.drop q.1) := name_many r
  have hb : Beh l (pMany r) n at' bad := hb
  unfold nxt
  rw [e]
  cases hp : pMany r with
  | none =>
    rw [hp] at hb
    have hb : bad = true := hb
    subst hb
    exact ⟨⟨_, hd⟩, fun y r' e => by cases e⟩
  | some q =>
    rw [hp] at hb
    obtain ⟨rfl, rfl, e2⟩ : n = q.1 ∧ bad = false ∧ q.2 = l.drop at' := hb
    refine ⟨⟨at' + q.1, ?_, hd⟩, fun y r' e => ?_⟩
    · show q.2.drop q.1 = _
      rw [e2, List.drop_drop]
    · simp at e
      rw [← e2]
      exact e.1
theorem sits_drop {S : Nat → Prop} {w : World} {a ad2 : Option Addr} {l : List UInt8} (h : Sits byteSh S w a l) (k : Nat) (had : k < l.length → ∀ b off, a = some ⟨b, off, none⟩ → ad2 = some ⟨b, off + k, none⟩) : Sits byteSh S w ad2 (l.drop k) := by
  refine ⟨by rw [List.length_drop]; have := h.1; omega, fun i hi => ?_⟩
  rw [List.length_drop] at hi
  obtain ⟨b, off, cs, rfl, hb, h1, h2⟩ := h.2 (k + i) (by omega)
  refine ⟨b, off + k, cs, had (by omega) b off rfl, hb, fun j u hu => ?_, by rw [List.getElem_drop]; exact h2⟩
  have := h1 j u hu
  simp only [byteSh] at this ⊢
  rw [show off + k + i * 1 + j = off + (k + i) * 1 + j by omega]
  exact this
theorem sits_take2 {S : Nat → Prop} {w : World} {a : Option Addr} {rest : List UInt8} (h : Sits byteSh S w a rest) (k : Nat) : Sits byteSh S w a (rest.take k) := by
  refine ⟨by rw [List.length_take]; have := h.1; omega, fun i hi => ?_⟩
  rw [List.length_take] at hi
  obtain ⟨b, off, cs, e, hb, h1, h2⟩ := h.2 i (by omega)
  exact ⟨b, off, cs, e, hb, h1, by rw [List.getElem_take]; exact h2⟩
/-- b[k : k+n]. -/
theorem cut_run {S : Nat → Prop} {w : World} {a : Option Addr} {l : List UInt8} {c k n : Nat} (h : Sits byteSh S w a l) (hk : k + n ≤ l.length) (hc : l.length ≤ c) :
    ∃ ad, (∀ W : World, (Instr.sliceAt 27 (.slice a l.length c) (some (.int .i64 (k : Int))) (some (.int .i64 ((k : Int) + (n : Int)))) none).run Try.prog W = .ok (.slice ad n (c - k)) W) ∧ Sits byteSh S w ad ((l.drop k).take n) := by
  have e : ((k : Int) + (n : Int)).toNat - k = n := by omega
  have ek : ((k : Int)).toNat = k := by omega
  refine ⟨if c = k then a else a.map (·.add (k * 1)), fun W => ?_, ?_⟩
  · rw [run_sliceAt_slice W 27 _ _ _ _ Try.underlying27]
    rw [run_slice_lh W 27 a l.length c Try.underlying27 .i64 .i64 (k : Int) ((k : Int) + (n : Int)) (by omega) (by omega) (by omega)]
    simp [go_sem, ek, e]
  · by_cases hck : c = k
    · have h0 : (l.drop k).take n = [] := by
        rw [List.drop_eq_nil_of_le (by omega)]; simp
      rw [h0]
      exact Sits.nil _ _ _ _
    · rw [if_neg hck]
      exact sits_take2 (sits_drop h k (fun hl b off e => by subst e; simp [Addr.add])) n
theorem KeptH.below {g h B : Nat} {w w' : World} (k : KeptH g h w w') (hg : B ≤ g) (hh : B ≤ h) (hB : B ≤ w.heap.size) : Below B w w' := ⟨k.os, k.tape, k.output, k.size, fun q hq => k.block q (by omega) (by omega) (by omega)⟩
theorem KeptG.low {g B : Nat} {w w' : World} (k : KeptG g w w') (hg : B ≤ g) (hB : B ≤ w.heap.size) : Below B w w' := ⟨k.os, k.tape, k.output, k.size, fun q hq => k.block q (by omega) (by omega)⟩
theorem Sits.blow {T : Type} {sh : Sh T} {B : Nat} {w w' : World} {a : Option Addr} {xs : List T} (h : Sits sh (Lo B) w a xs) (hb : Below B w w') : Sits sh (Lo B) w' a xs := h.up hb
def RReadEnd (l : List UInt8) (w : World) (e : Ending) (w' : World) : Prop := ∃ v xs er n, e = .returned (.tuple #[.agg #[v], .int .i64 n]) ∧ ReadIs l xs er n ∧ Slot recSh (fun b => w.heap.size ≤ b ∧ b < w'.heap.size) w' v xs ∧ Below w.heap.size w w'
theorem Try.eachReplyInfo2 : (Try.prog.info? 50).map (fun i => (i.zero.map fun z => z.cells.size, i.size, i.bytes)) = some (some 3, 3, 56) := by kernel_rfl
theorem Try.eachRecInfo2 : (Try.prog.info? 37).map (fun i => (i.zero.map fun z => z.cells.size, i.size, i.bytes)) = some (some 2, 2, 40) := by kernel_rfl
end Go.Proofs.Ytgaipfkblfommaa
