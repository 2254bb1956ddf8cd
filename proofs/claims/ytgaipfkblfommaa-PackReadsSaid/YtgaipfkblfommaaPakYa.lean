/- The document's reader: its state; a byte. -/
import Derived.Test.YtgaipfkblfommaaPakQ
import Derived.BigQuiet
set_option linter.unusedVariables false
set_option linter.unusedSimpArgs false
namespace Go.Proofs.Ytgaipfkblfommaa
set_option maxRecDepth 100000
open Go.RowKit

structure DR (g : Nat) (l : List UInt8) (at' : Nat) (bad : Bool) (w : World) : Prop where
  st : ∃ a c, w.cell? ⟨g, 0, none⟩ = some (.slice a l.length c) ∧ w.cell? ⟨g, 1, none⟩ = some (.int .i64 (at' : Int)) ∧ w.cell? ⟨g, 2, none⟩ = some (.bool bad) ∧ Sits byteSh (Lo g) w a l ∧ l.length ≤ c ∧ c ≤ 9223372036854775807
  fr : ∀ j, w.frozen? ⟨g, j, none⟩ = false
  lt : g < w.heap.size
  len : l.length ≤ 4194304
  le : at' ≤ l.length
def DRt (g : Nat) (l : List UInt8) (st : Option (List UInt8)) (w : World) : Prop := match st with
  | some rest => ∃ at', rest = l.drop at' ∧ DR g l at' false w
  | none => ∃ at', DR g l at' true w
theorem DR.below {g : Nat} {l : List UInt8} {at' : Nat} {bad : Bool} {w w' : World} (h : DR g l at' bad w) (hb : Below w.heap.size w w') : DR g l at' bad w' := by
  obtain ⟨a, c, h1, h2, h3, h4, h5, h6⟩ := h.st
  exact ⟨⟨a, c, (hb.cell (p := ⟨g, 0, none⟩) h.lt).trans h1, (hb.cell (p := ⟨g, 1, none⟩) h.lt).trans h2, (hb.cell (p := ⟨g, 2, none⟩) h.lt).trans h3, h4.up (hb.mono (Nat.le_of_lt h.lt)), h5, h6⟩, fun j => (hb.frozen (p := ⟨g, j, none⟩) h.lt).trans (h.fr j), Nat.lt_of_lt_of_le h.lt hb.size, h.len, h.le⟩
theorem DRt.below {g : Nat} {l : List UInt8} {st : Option (List UInt8)} {w w' : World} (h : DRt g l st w) (hb : Below w.heap.size w w') : DRt g l st w' := by
  cases st with
  | some r => obtain ⟨k, e, h⟩ := h; exact ⟨k, e, h.below hb⟩
  | none => obtain ⟨k, h⟩ := h; exact ⟨k, h.below hb⟩
theorem DRt.lt {g : Nat} {l : List UInt8} {st : Option (List UInt8)} {w : World} (h : DRt g l st w) : g < w.heap.size := by
  cases st with
  | some r => obtain ⟨k, e, h⟩ := h; exact h.lt
  | none => obtain ⟨k, h⟩ := h; exact h.lt
theorem DR.fail {g : Nat} {l : List UInt8} {at' : Nat} {bad : Bool} {w : World} (h : DR g l at' bad w) : DRt g l none (w.setCell ⟨g, 2, none⟩ (.bool true)) := by
  obtain ⟨a, c, h1, h2, h3, h4, h5, h6⟩ := h.st
  refine ⟨at', ⟨⟨a, c, ?_, ?_, ?_, ?_, h5, h6⟩, fun j => ?_, by simpa [World.setCell] using h.lt, h.len, h.le⟩⟩
  · exact (World.cell?_setCell_other w ⟨g, 2, none⟩ ⟨g, 0, none⟩ (.bool true) (by simp)).trans h1
  · exact (World.cell?_setCell_other w ⟨g, 2, none⟩ ⟨g, 1, none⟩ (.bool true) (by simp)).trans h2
  · exact World.cell?_setCell_same' _ _ _ (by rw [h3]; rfl)
  · exact h4.up (KeptG.below KeptG.set h.lt)
  · rw [World.frozen?_setCell]; exact h.fr j
theorem DR.go {g : Nat} {l : List UInt8} {at' : Nat} {bad : Bool} {w : World} (h : DR g l at' bad w) (k : Nat) (hk : at' + k ≤ l.length) : DR g l (at' + k) bad (w.setCell ⟨g, 1, none⟩ (.int .i64 ((at' + k : Nat) : Int))) := by
  obtain ⟨a, c, h1, h2, h3, h4, h5, h6⟩ := h.st
  refine ⟨⟨a, c, ?_, ?_, ?_, ?_, h5, h6⟩, fun j => ?_, by simpa [World.setCell] using h.lt, h.len, hk⟩
  · exact (World.cell?_setCell_other w ⟨g, 1, none⟩ ⟨g, 0, none⟩ _ (by simp)).trans h1
  · exact World.cell?_setCell_same' _ _ _ (by rw [h2]; rfl)
  · exact (World.cell?_setCell_other w ⟨g, 1, none⟩ ⟨g, 2, none⟩ _ (by simp)).trans h3
  · exact h4.up (KeptG.below KeptG.set h.lt)
  · rw [World.frozen?_setCell]; exact h.fr j
def DEnd {T : Type} (V : World → World → Value → T → Prop) (p : Ps T) (g : Nat) (l : List UInt8) (st : Option (List UInt8)) (w : World) (e : Ending) (w' : World) : Prop :=
  ∃ v x, e = .returned v ∧ V w w' v x ∧ DRt g l (nxt p st) w' ∧ (∀ y r, st.bind p = some (y, r) → x = y) ∧ KeptG g w w'
def Vbi (_ _ : World) (v : Value) (x : UInt8) : Prop := v = .int .i64 (x.toNat : Int)
theorem below_drewN2 {B : Nat} {a w : World} (h : Below B a w) : ∀ n, Below B a (w.drewN n) := fun n => ⟨h.os, h.tape, h.output, h.size, h.block⟩
theorem KeptG.drewN {g : Nat} {w w' : World} (h : KeptG g w w') (n : Nat) : KeptG g w (w'.drewN n) := ⟨h.os, h.tape, h.output, h.size, h.block⟩
set_option maxHeartbeats 8000000 in
theorem one_any (g : Nat) (l : List UInt8) (st : Option (List UInt8)) (w : World) (h : DRt g l st w) :
    Calls Try.prog 42 #[.pointer (some ⟨g, 0, none⟩)] w (DEnd Vbi pTake g l st w) := by
  have key : ∀ at' bad, DR g l at' bad w → (bad = true ∨ l.length ≤ at') → st.bind pTake = none → Calls Try.prog 42 #[.pointer (some ⟨g, 0, none⟩)] w (DEnd Vbi pTake g l st w) := fun at' bad h hb hn => by
    have HE : Hid (∀ n, DEnd Vbi pTake g l st w (.returned (.int .i64 0)) ((w.drewN n).setCell ⟨g, 2, none⟩ (.bool true))) := fun n => ⟨_, 0, rfl, rfl, by unfold nxt; rw [hn]; exact (h.below (below_drewN2 (Below.refl _ _) n)).fail, fun y r e => (by rw [hn] at e; cases e), ((KeptG.refl g w).drewN n).trans KeptG.set⟩
    have f2 := h.fr 2
    obtain ⟨a, c, h1, h2, h3, _⟩ := h.st
    have hle := h.le
    have hln := h.len
    clear h hn
    cases bad with
    | true =>
      go_enter Try.func42, Try.ntmps42
      go_wp2_with fail
      go_quiet (fail)
      go_wp2_with fail
      go_ret
      exact HE.out _
    | false =>
      have hge : l.length ≤ at' := by rcases hb with h | h; cases h; exact h
      have hgi : decide ((at' : Int) ≥ (l.length : Int)) = true := by simp; omega
      have hgj : decide ((l.length : Int) ≤ (at' : Int)) = true := by simp; omega
      clear hb
      go_enter Try.func42, Try.ntmps42
      go_wp2_with fail
      go_quiet (fail)
      go_wp2_with fail
      go_ret
      exact HE.out _
  cases st with
  | none => obtain ⟨k, h⟩ := h; exact key k true h (.inl rfl) rfl
  | some rest =>
    obtain ⟨at', rfl, h⟩ := h
    by_cases hge : l.length ≤ at'
    · exact key at' false h (.inr hge) (by rw [List.drop_eq_nil_of_le hge]; rfl)
    · clear key
      have hlt : at' < l.length := by omega
      have hd : l.drop at' = l[at'] :: l.drop (at' + 1) := List.drop_eq_getElem_cons hlt
      have hn : (some (l.drop at')).bind pTake = some (l[at'], l.drop (at' + 1)) := by rw [hd]; rfl
      obtain ⟨a, c, h1, h2, h3, h4, h5, h6⟩ := h.st
      obtain ⟨b, off, cs, rfl, hbb, hc, rfl⟩ := h4.2 at' hlt
      have hbb : b < g := hbb
      have c0 : w.cell? ⟨b, off + at', none⟩ = some (.int .u8 (l[at'].toNat : Int)) := by simpa [byteSh] using hc 0 _ rfl
      have hgl := h.lt
      have hln := h.len
      have HE : Hid (∀ n m, DEnd Vbi pTake g l (some (l.drop at')) w (.returned (.int .i64 (l[at'].toNat : Int))) (((w.drewN n).setCell ⟨g, 1, none⟩ (.int .i64 ((at' + 1 : Nat) : Int))).drewN m)) := fun n m => ⟨_, l[at'], rfl, rfl, by
        have e : nxt pTake (some (l.drop at')) = some (l.drop (at' + 1)) := by unfold nxt; rw [hn]; rfl
        rw [e]
        exact ⟨at' + 1, rfl, ((h.below (below_drewN2 (Below.refl _ _) n)).go 1 (by omega)).below (below_drewN2 (Below.refl _ _) m)⟩, fun y r e => (by rw [hn] at e; simp at e; exact e.1), (((KeptG.refl g w).drewN n).trans KeptG.set).drewN m⟩
      have f1 := h.fr 1
      have hgi : decide ((at' : Int) ≥ (l.length : Int)) = false := by simp; omega
      have hgj : decide ((l.length : Int) ≤ (at' : Int)) = false := by simp; omega
      have hw1 : IntKind.i64.wrap ((at' : Int) + 1) = ((at' + 1 : Nat) : Int) := by rw [show (at' : Int) + 1 = ((at' + 1 : Nat) : Int) by omega]; exact IntWalk.i64_in _ (by omega)
      have hbg : ¬ b = g := by omega
      have hbg2 : ¬ g = b := by omega
      have hati : (at' : Int) < (l.length : Int) := by omega
      have hx256 : l[at'].toNat < 256 := l[at'].toNat_lt
      clear h h4 hc hn hd hge
      generalize l[at'].toNat = xb at *
      go_enter Try.func42, Try.ntmps42
      go_wp2_with fail
      go_quiet (fail)
      go_wp2_with fail
      go_quiet (fail)
      go_wp2_with fail
      go_ret
      exact HE.out _ _
end Go.Proofs.Ytgaipfkblfommaa
