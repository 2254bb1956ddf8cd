/- What a witness's bytes say; the reader: its state; a byte. -/
import Derived.Test.YtgaipfkblfommaaPakJ
import Derived.Lib.VarintBits
set_option linter.unusedVariables false
set_option linter.unusedSimpArgs false
namespace Go.Proofs.Ytgaipfkblfommaa
set_option maxRecDepth 100000
open Go.RowKit

abbrev Ps (T : Type) := List UInt8 → Option (T × List UInt8)
def pTake : Ps UInt8
  | [] => none
  | b :: r => some (b, r)
/-- From group k on. -/
def numGo : Nat → Nat → Ps Nat
  | _, _, [] => none
  | k, acc, b :: r => if (0 < k ∧ b.toNat = 0) ∨ (k = 9 ∧ 1 < b.toNat) then none else if b.toNat < 128 then some (acc + b.toNat % 128 * 128 ^ k, r) else numGo (k + 1) (acc + b.toNat % 128 * 128 ^ k) r
def unzig (n : Nat) : Int := if n % 2 = 1 then -((n / 2 : Nat) : Int) - 1 else ((n / 2 : Nat) : Int)
def pNum : Ps Int := fun l => (numGo 0 0 l).map fun p => (unzig p.1, p.2)
def pMany : Ps Nat := fun l => match pNum l with
  | none => none
  | some (x, r) => if 0 ≤ x ∧ x ≤ r.length then some (x.toNat, r) else none
def pGo {T : Type} (p : Ps T) : Nat → Option (List UInt8) → Option (List T × List UInt8)
  | 0, st => st.map fun l => ([], l)
  | i + 1, st => match pGo p i st with
    | none => none
    | some (xs, r) => (p r).map fun q => (xs ++ [q.1], q.2)
def pEach {T : Type} (p : Ps T) : Ps (List T) := fun l => match pMany l with
  | none => none
  | some (n, r) => pGo p n (some r)
def pSeq {A B C : Type} (p1 : Ps A) (p2 : Ps B) (f : A → B → C) : Ps C := fun l => match p1 l with
  | none => none
  | some (a, r) => (p2 r).map fun q => (f a q.1, q.2)
def pPart : Ps Part := pSeq pNum pNum Part.mk
def pStep : Ps Step := pSeq (pEach pPart) pNum Step.mk
def pClause : Ps (List Int) := pEach pNum
def pLem : Ps Lem := pSeq pClause (pEach pStep) Lem.mk
def pCert : Ps (List Lem × List (List Int)) := pSeq (pEach pLem) (pEach pClause) Prod.mk
def pReply : Ps Reply := fun l => match pTake l with
  | none => none
  | some (b, r) => if b.toNat = 0 then some (⟨false, [], []⟩, r) else if b.toNat = 1 then (pCert r).map fun q => (⟨true, q.1.1, q.1.2⟩, q.2) else none
def pText (x : Int) : Ps ByteArray := fun l => if 0 ≤ x ∧ x ≤ l.length then some (⟨(l.take x.toNat).toArray⟩, l.drop x.toNat) else none
def pName : Ps ByteArray := fun l => match pNum l with
  | none => none
  | some (x, r) => pText x r
def pRec : Ps Rec := pSeq pName (pEach pReply) Rec.mk
def pWit : Ps (List Rec) := pEach pRec
/-- What is left behind it. -/
def nxt {T : Type} (p : Ps T) (st : Option (List UInt8)) : Option (List UInt8) := (st.bind p).map Prod.snd
/-! Blocks below g, and from B on. -/
structure KeptG (g : Nat) (w w' : World) : Prop where
  os : w'.os = w.os
  tape : w'.tape = w.tape
  output : w'.output = w.output
  size : w.heap.size ≤ w'.heap.size
  block : ∀ q, q < w.heap.size → q ≠ g → w'.heap[q]? = w.heap[q]?
theorem KeptG.refl (g : Nat) (w : World) : KeptG g w w := ⟨rfl, rfl, rfl, Nat.le_refl _, fun _ _ _ => rfl⟩
theorem KeptG.trans {g : Nat} {a b c : World} (h : KeptG g a b) (k : KeptG g b c) : KeptG g a c :=
  ⟨k.os.trans h.os, k.tape.trans h.tape, k.output.trans h.output, Nat.le_trans h.size k.size, fun q h1 h2 => (k.block q (Nat.lt_of_lt_of_le h1 h.size) h2).trans (h.block q h1 h2)⟩
theorem KeptG.of_below {g : Nat} {w w' : World} (hb : Below w.heap.size w w') : KeptG g w w' := ⟨hb.os, hb.tape, hb.output, hb.size, fun q hq _ => hb.block q hq⟩
theorem KeptG.set {g j : Nat} {w : World} {v : Value} : KeptG g w (w.setCell ⟨g, j, none⟩ v) := ⟨rfl, rfl, rfl, by simp [World.setCell], fun q _ h2 => Below.heap_setCell _ _ _ _ h2⟩
theorem KeptG.below {g : Nat} {w w' : World} (h : KeptG g w w') (hg : g < w.heap.size) : Below g w w' := ⟨h.os, h.tape, h.output, h.size, fun q hq => h.block q (by omega) (by omega)⟩
/-- The reader at g: not amiss, with what is left; or amiss. -/
structure RS (g : Nat) (rest : List UInt8) (bad : Bool) (w : World) : Prop where
  st : ∃ a c, w.cell? ⟨g, 0, none⟩ = some (.slice a rest.length c) ∧ w.cell? ⟨g, 1, none⟩ = some (.bool bad) ∧ Sits byteSh (Lo g) w a rest ∧ rest.length ≤ c ∧ c ≤ 9223372036854775807 ∧ (a = none → c = 0)
  fr : ∀ j, w.frozen? ⟨g, j, none⟩ = false
  lt : g < w.heap.size
  len : rest.length ≤ 4194304
def RSt (g : Nat) (st : Option (List UInt8)) (w : World) : Prop := match st with
  | some rest => RS g rest false w
  | none => ∃ rest, RS g rest true w
theorem RS.below {g : Nat} {rest : List UInt8} {bad : Bool} {w w' : World} (h : RS g rest bad w) (hb : Below w.heap.size w w') : RS g rest bad w' := by
  obtain ⟨a, c, h1, h2, h3, h4, h5⟩ := h.st
  exact ⟨⟨a, c, (hb.cell (p := ⟨g, 0, none⟩) h.lt).trans h1, (hb.cell (p := ⟨g, 1, none⟩) h.lt).trans h2, h3.up (hb.mono (Nat.le_of_lt h.lt)), h4, h5⟩, fun j => (hb.frozen (p := ⟨g, j, none⟩) h.lt).trans (h.fr j), Nat.lt_of_lt_of_le h.lt hb.size, h.len⟩
theorem RSt.below {g : Nat} {st : Option (List UInt8)} {w w' : World} (h : RSt g st w) (hb : Below w.heap.size w w') : RSt g st w' := by
  cases st with
  | some r => exact RS.below h hb
  | none => obtain ⟨r, h⟩ := h; exact ⟨r, h.below hb⟩
theorem RSt.lt {g : Nat} {st : Option (List UInt8)} {w : World} (h : RSt g st w) : g < w.heap.size := by
  cases st with
  | some r => exact RS.lt h
  | none => obtain ⟨r, h⟩ := h; exact h.lt
/-- It is amiss now. -/
theorem RS.fail {g : Nat} {rest : List UInt8} {bad : Bool} {w : World} (h : RS g rest bad w) : RSt g none (w.setCell ⟨g, 1, none⟩ (.bool true)) := by
  obtain ⟨a, c, h1, h2, h3, h4, h5⟩ := h.st
  refine ⟨rest, ⟨⟨a, c, ?_, ?_, ?_, h4, h5⟩, fun j => ?_, by simpa [World.setCell] using h.lt, h.len⟩⟩
  · exact (World.cell?_setCell_other w ⟨g, 1, none⟩ ⟨g, 0, none⟩ (.bool true) (by simp)).trans h1
  · exact World.cell?_setCell_same' _ _ _ (by rw [h2]; rfl)
  · exact h3.up (KeptG.below KeptG.set h.lt)
  · rw [World.frozen?_setCell]; exact h.fr j
theorem sits_tail {g : Nat} {w : World} {a ad2 : Option Addr} {rest : List UInt8} (h : Sits byteSh (Lo g) w a rest) (k : Nat) (had : k < rest.length → ∃ b off, a = some ⟨b, off, none⟩ ∧ ad2 = some ⟨b, off + k, none⟩) : Sits byteSh (Lo g) w ad2 (rest.drop k) := by
  refine ⟨by rw [List.length_drop]; have := h.1; omega, fun i hi => ?_⟩
  rw [List.length_drop] at hi
  obtain ⟨b, off, rfl, rfl⟩ := had (by omega)
  obtain ⟨b', off', cs, e, hb, h1, h2⟩ := h.2 (k + i) (by omega)
  injection e with e
  injection e with e1 e2 e3
  subst e1 e2
  refine ⟨b, off + k, cs, rfl, hb, fun j u hu => ?_, by rw [List.getElem_drop]; exact h2⟩
  have := h1 j u hu
  simp only [byteSh] at this ⊢
  rw [show off + k + i * 1 + j = off + (k + i) * 1 + j by omega]
  exact this
/-- The rest is another one now. -/
theorem RS.rest {g : Nat} {rest : List UInt8} {w : World} (h : RS g rest false w) {rest2 : List UInt8} {a2 : Option Addr} {c2 : Nat} (hs : Sits byteSh (Lo g) w a2 rest2) (h4 : rest2.length ≤ c2) (h5 : c2 ≤ 9223372036854775807) (hnil : a2 = none → c2 = 0) (hlen : rest2.length ≤ rest.length) : RS g rest2 false (w.setCell ⟨g, 0, none⟩ (.slice a2 rest2.length c2)) := by
  obtain ⟨a, c, h1, h2, h3, _, _⟩ := h.st
  refine ⟨⟨a2, c2, ?_, ?_, ?_, h4, h5, hnil⟩, fun j => ?_, by simpa [World.setCell] using h.lt, Nat.le_trans hlen h.len⟩
  · exact World.cell?_setCell_same' _ _ _ (by rw [h1]; rfl)
  · exact (World.cell?_setCell_other w ⟨g, 0, none⟩ ⟨g, 1, none⟩ _ (by simp)).trans h2
  · exact hs.up (KeptG.below KeptG.set h.lt)
  · rw [World.frozen?_setCell]; exact h.fr j
/-- What a reading answers. -/
def PEnd {T : Type} (V : World → World → Value → T → Prop) (p : Ps T) (g : Nat) (st : Option (List UInt8)) (w : World) (e : Ending) (w' : World) : Prop :=
  ∃ v x, e = .returned v ∧ V w w' v x ∧ RSt g (nxt p st) w' ∧ (∀ y r, st.bind p = some (y, r) → x = y) ∧ KeptG g w w'
def Vb (_ _ : World) (v : Value) (x : UInt8) : Prop := v = .int .u8 (x.toNat : Int)
set_option maxHeartbeats 4000000 in
theorem take_any (g : Nat) (st : Option (List UInt8)) (w : World) (h : RSt g st w) :
    Calls Try.prog 47 #[.pointer (some ⟨g, 0, none⟩)] w (PEnd Vb pTake g st w) := by
  cases st with
  | none =>
    obtain ⟨rest, h⟩ := h
    have HE : Hid (PEnd Vb pTake g none w (.returned (.int .u8 0)) (w.setCell ⟨g, 1, none⟩ (.bool true))) := ⟨_, 0, rfl, rfl, h.fail, fun y r e => (by cases e), KeptG.set⟩
    have f1 := h.fr 1
    obtain ⟨a, c, h1, h2, _⟩ := h.st
    clear h
    go_enter Try.func47, Try.ntmps47
    go_wp2_with fail
    go_ret
    exact HE.out
  | some rest =>
    have h : RS g rest false w := h
    cases rest with
    | nil =>
      have HE : Hid (PEnd Vb pTake g (some []) w (.returned (.int .u8 0)) (w.setCell ⟨g, 1, none⟩ (.bool true))) := ⟨_, 0, rfl, rfl, h.fail, fun y r e => (by cases e), KeptG.set⟩
      have f1 := h.fr 1
      obtain ⟨a, c, h1, h2, _⟩ := h.st
      clear h
      go_enter Try.func47, Try.ntmps47
      go_wp2_with fail
      go_ret
      exact HE.out
    | cons x rest =>
      have f0 := h.fr 0
      obtain ⟨a, c, h1, h2, h3, h4, h5⟩ := h.st
      obtain ⟨b, off, cs, rfl, hb, hc, rfl⟩ := h3.2 0 (by simp)
      have c0 : w.cell? ⟨b, off, none⟩ = some (.int .u8 (x.toNat : Int)) := by simpa [byteSh] using hc 0 _ rfl
      rw [List.length_cons] at h1 h4
      have hlen : ((rest.length + 1 : Nat) == 0) = false := by simp
      have hlen2 : (((rest.length + 1 : Nat) : Int) == 0) = false := by simp; omega
      have hpos : (0 : Int) < ((rest.length + 1 : Nat) : Int) := by omega
      have hc1 : 1 ≤ c := by omega
      obtain ⟨ad2, had2⟩ : ∃ ad2 : Option Addr, (if c = 1 then (some ⟨b, off, none⟩ : Option Addr) else some ⟨b, off + 1, none⟩) = ad2 := ⟨_, rfl⟩
      have HS2 : Sits byteSh (Lo g) w ad2 rest := sits_tail h3 1 (fun hk => ⟨b, off, rfl, by rw [← had2, if_neg (by simp at hk; omega)]⟩)
      have HE : Hid (PEnd Vb pTake g (some (x :: rest)) w (.returned (.int .u8 (x.toNat : Int))) (w.setCell ⟨g, 0, none⟩ (.slice ad2 rest.length (c - 1)))) := ⟨_, x, rfl, rfl, h.rest (rest2 := rest) HS2 (by omega) (by omega) (fun e => by rw [← had2] at e; split at e <;> cases e) (by simp), fun y r e => by simp [pTake] at e; exact e.1, KeptG.set⟩
      clear h h3 hc HS2
      generalize rest.length = m at *
      go_enter Try.func47, Try.ntmps47
      go_wp2_with fail
      go_ret
      exact HE.out
end Go.Proofs.Ytgaipfkblfommaa
