/- The document's reader: how many. -/
import Derived.Test.YtgaipfkblfommaaPakYb
import Derived.Test.YtgaipfkblfommaaPakS
set_option linter.unusedVariables false
set_option linter.unusedSimpArgs false
namespace Go.Proofs.Ytgaipfkblfommaa
set_option maxRecDepth 100000
open Go.RowKit

/-- How it stands behind it. -/
def Beh {T : Type} (l : List UInt8) (o : Option (T × List UInt8)) (x : T) (at' : Nat) (bad : Bool) : Prop := match o with
  | some (y, r) => x = y ∧ bad = false ∧ r = l.drop at'
  | none => bad = true
def MEnd (g : Nat) (l : List UInt8) (st : Option (List UInt8)) (w : World) (e : Ending) (w' : World) : Prop :=
  ∃ (n at' : Nat) (bad : Bool), e = .returned (.int .i64 (n : Int)) ∧ DR g l at' bad w' ∧ at' + n ≤ l.length ∧ KeptG g w w' ∧ Beh l (st.bind pMany) n at' bad
theorem many_none {st : Option (List UInt8)} (h : st.bind pNum = none) : st.bind pMany = none := by
  cases st with
  | none => rfl
  | some l =>
    have h : pNum l = none := h
    show pMany l = none
    unfold pMany
    rw [h]
theorem many_bad {st : Option (List UInt8)} {x : Int} {r : List UInt8} (h : st.bind pNum = some (x, r)) (hx : x < 0 ∨ (r.length : Int) < x) : st.bind pMany = none := by
  cases st with
  | none => rfl
  | some l =>
    have h : pNum l = some (x, r) := h
    show pMany l = none
    unfold pMany
    rw [h]
    simp only
    rw [if_neg (by omega)]
theorem many_go {st : Option (List UInt8)} {n : Nat} {r : List UInt8} (h : st.bind pNum = some ((n : Int), r)) (hx : n ≤ r.length) : st.bind pMany = some (n, r) := by
  cases st with
  | none => cases h
  | some l =>
    have h : pNum l = some ((n : Int), r) := h
    show pMany l = _
    unfold pMany
    rw [h]
    simp only
    rw [if_pos (by omega)]
    rfl
set_option maxHeartbeats 8000000 in
theorem many_any (g : Nat) (l : List UInt8) (st : Option (List UInt8)) (w : World) (h : DRt g l st w) :
    Calls Try.prog 25 #[.pointer (some ⟨g, 0, none⟩)] w (MEnd g l st w) := by
  have HN := Lib.hid (rnum_any g l st w h)
  clear h
  go_enter Try.func25, Try.ntmps25
  go_wp2_with fail
  refine HN.out.mono ?_
  rintro e w1 ⟨v1, x, rfl, ⟨rfl, hx⟩, hst1, hx1, hk1⟩
  obtain ⟨at', bad, hdr, hor⟩ : ∃ at' bad, DR g l at' bad w1 ∧ (bad = true ∧ st.bind pNum = none ∨ bad = false ∧ st.bind pNum = some (x, l.drop at')) := by
    cases hn : st.bind pNum with
    | none =>
      have e : nxt pNum st = none := by unfold nxt; rw [hn]; rfl
      rw [e] at hst1
      obtain ⟨k, h1⟩ := hst1
      exact ⟨k, true, h1, .inl ⟨rfl, rfl⟩⟩
    | some q =>
      have e : nxt pNum st = some q.2 := by unfold nxt; rw [hn]; rfl
      rw [e] at hst1
      obtain ⟨k, h0, h1⟩ := hst1
      refine ⟨k, false, h1, .inr ⟨rfl, ?_⟩⟩
      have := hx1 q.1 q.2 hn
      rw [← h0, this]
  have hle := hdr.le
  have hln := hdr.len
  have hbx : i64 x := hx
  unfold i64 at hbx
  have hw0 : IntKind.i64.wrap ((l.length : Int) - (at' : Int)) = (l.length : Int) - (at' : Int) := IntWalk.i64_in _ (by omega)
  by_cases hin : 0 ≤ x ∧ x ≤ (l.length : Int) - (at' : Int)
  · obtain ⟨n, rfl⟩ := Int.eq_ofNat_of_zero_le hin.1
    have HE : Hid (∀ q, MEnd g l st w (.returned (.int .i64 (n : Int))) (w1.drewN q)) := fun q => ⟨n, at', bad, rfl, hdr.below ⟨rfl, rfl, rfl, Nat.le_refl _, fun _ _ => rfl⟩, by omega, ⟨hk1.os, hk1.tape, hk1.output, hk1.size, hk1.block⟩, by
      rcases hor with ⟨rfl, h⟩ | ⟨rfl, h⟩
      · rw [many_none h]; rfl
      · rw [many_go h (by rw [List.length_drop]; omega)]; exact ⟨rfl, rfl, rfl⟩⟩
    obtain ⟨a, c, g1, g2, g3, _⟩ := hdr.st
    have d1 : decide ((n : Int) < 0) = false := by simp
    have d2 : decide ((l.length : Int) - (at' : Int) < (n : Int)) = false := by simp; omega
    have d3 : decide ((n : Int) > (l.length : Int) - (at' : Int)) = false := by simp; omega
    clear hdr hor hst1 hx1 hk1 hx HN hbx
    go_wp2_with fail
    go_quiet (fail)
    go_wp2_with fail
    go_ret
    exact HE.out _
  · have HE : Hid (∀ q, MEnd g l st w (.returned (.int .i64 0)) ((w1.drewN q).setCell ⟨g, 2, none⟩ (.bool true))) := fun q => by
      obtain ⟨k, hd2⟩ := (hdr.below (w' := w1.drewN q) ⟨rfl, rfl, rfl, Nat.le_refl _, fun _ _ => rfl⟩).fail
      have hk2 : KeptG g w (w1.drewN q) := ⟨hk1.os, hk1.tape, hk1.output, hk1.size, hk1.block⟩
      refine ⟨0, k, true, rfl, hd2, by have := hd2.le; omega, hk2.trans KeptG.set, ?_⟩
      rcases hor with ⟨_, h⟩ | ⟨_, h⟩
      · rw [many_none h]; rfl
      · rw [many_bad h (by rw [List.length_drop]; omega)]; rfl
    have f2 := hdr.fr 2
    obtain ⟨a, c, g1, g2, g3, _⟩ := hdr.st
    by_cases h0 : x < 0
    · have d1 : decide (x < 0) = true := by simp; exact h0
      clear hdr hor hst1 hx1 hk1 hx HN hbx hin
      go_wp2_with fail
      go_quiet (fail)
      go_wp2_with fail
      go_ret
      exact HE.out _
    · have d1 : decide (x < 0) = false := by simp; omega
      have d2 : decide ((l.length : Int) - (at' : Int) < x) = true := by simp; omega
      have d3 : decide (x > (l.length : Int) - (at' : Int)) = true := by simp; omega
      clear hdr hor hst1 hx1 hk1 hx HN hbx hin
      go_wp2_with fail
      go_quiet (fail)
      go_wp2_with fail
      go_ret
      exact HE.out _
end Go.Proofs.Ytgaipfkblfommaa
