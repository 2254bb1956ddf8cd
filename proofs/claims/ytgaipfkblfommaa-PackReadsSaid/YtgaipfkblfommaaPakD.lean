/- The writer: several of a kind. -/
import Derived.Test.YtgaipfkblfommaaPakC
set_option linter.unusedVariables false
set_option linter.unusedSimpArgs false
namespace Go.Proofs.Ytgaipfkblfommaa
set_option maxRecDepth 100000
open Go.RowKit

theorem flat_snoc {T : Type} (f : T → List UInt8) (xs : List T) (k : Nat) (h : k < xs.length) : (xs.take (k + 1)).flatMap f = (xs.take k).flatMap f ++ f xs[k] := by
  rw [List.take_succ_eq_append_getElem h, List.flatMap_append]
  simp
theorem flat_rest {T : Type} (f : T → List UInt8) (xs : List T) (k : Nat) : (xs.take k).flatMap f ++ (xs.drop k).flatMap f = xs.flatMap f := by
  rw [← List.flatMap_append, List.take_append_drop]
/-- So far. -/
def Sev {T : Type} (f : T → List UInt8) (g : Nat) (r : Option Nat) (w : World) (out : List UInt8) (xs : List T) (k : Nat) (wr : World) : Prop := WTo g r w (out ++ (num xs.length ++ (xs.take k).flatMap f)) wr
theorem Sev.start {T : Type} {f : T → List UInt8} {g : Nat} {r : Option Nat} {w w1 : World} {out : List UInt8} {xs : List T} (h : WTo g r w (out ++ num xs.length) w1) : Sev f g r w out xs 0 w1 := by
  unfold Sev
  simpa using h
theorem Sev.done {T : Type} {f : T → List UInt8} {g : Nat} {r : Option Nat} {w wr : World} {out : List UInt8} {xs : List T} (h : Sev f g r w out xs xs.length wr) : WTo g r w (out ++ encList f xs) wr := by
  unfold Sev at h
  rw [List.take_length] at h
  exact h
/-- A step: the writer behind it. -/
theorem Sev.next {T : Type} {f : T → List UInt8} {g : Nat} {r r1 : Option Nat} {w wr w2 : World} {out : List UInt8} {xs : List T} {k : Nat} (hk : k < xs.length) (hr : r1 = r ∨ ∃ q, r1 = some q ∧ w.heap.size ≤ q) (hkp : KeptW g r w wr) (h : WTo g r1 wr (out ++ (num xs.length ++ (xs.take k).flatMap f) ++ f xs[k]) w2) : Sev f g r w out xs (k + 1) w2 := by
  unfold Sev
  rw [flat_snoc f xs k hk]
  have := WTo.trans hr hkp h
  simpa [List.append_assoc] using this
/-- It is full: the rest is left. -/
theorem Sev.full {T : Type} {f : T → List UInt8} {g : Nat} {r r1 : Option Nat} {w wr w2 : World} {out : List UInt8} {xs : List T} {k : Nat} (hr : r1 = r ∨ ∃ q, r1 = some q ∧ w.heap.size ≤ q) (hkp : KeptW g r w wr) (hs : WS g r1 (out ++ (num xs.length ++ (xs.take k).flatMap f)) wr) (hf : wr.cell? ⟨g, 1, none⟩ = some (.bool true)) (hb : Below wr.heap.size wr w2) : WTo g r w (out ++ encList f xs) w2 := by
  have h1 := hs.more hf ((xs.drop k).flatMap f)
  rw [List.append_assoc, List.append_assoc, flat_rest] at h1
  exact WTo.trans hr hkp (WTo.of_below h1 hb)
theorem Apart.below {q g : Nat} {r : Option Nat} {w w' : World} (h : Apart q g r w) (hb : Below w.heap.size w w') : Apart q g r w' ∧ ∀ j, w'.cell? ⟨q, j, none⟩ = w.cell? ⟨q, j, none⟩ :=
  ⟨⟨Nat.lt_of_lt_of_le h.lt hb.size, h.ne, h.row⟩, fun j => hb.cell (p := ⟨q, j, none⟩) h.lt⟩
theorem WS.fresh {g : Nat} {r : Option Nat} {out : List UInt8} {w : World} (h : WS g r out w) (o : Obj) : Apart w.heap.size g r (w.alloc o) :=
  ⟨by simp, by have := h.lt; omega, fun e => by have := h.row_lt w.heap.size e.symm; omega⟩
set_option maxHeartbeats 4000000 in
theorem sevInt_any (g : Nat) (r : Option Nat) (out : List UInt8) (w : World) (h : WS g r out w) (a : Option Addr) (n cap : Nat) (xs : List Int) (hn : xs.length = n) (hl : Sits intSh (Lo g) w a xs) :
    Calls Try.prog 30 #[.pointer (some ⟨g, 0, none⟩), .slice a n cap, .func (.func 17) #[.pointer (some ⟨g, 0, none⟩)] #[]] w (WEnd g r w (out ++ encList num xs)) := by
  have HW := Lib.hid h
  have HL := Lib.hid hl
  have HN := Lib.hid hn
  have hnm : n ≤ 9223372036854775807 := by rw [← hn]; exact hl.1
  have HNU := Lib.hid (number_any g r out (n : Int) w h ⟨by omega, by omega⟩)
  clear h hl hn
  go_enter Try.func30, Try.ntmps30
  go_wp2_with fail
  refine HNU.out.mono ?_
  rintro e w1 ⟨rfl, hw1⟩
  have H1 : Hid (Sev num g r w out xs 0 w1) := Sev.start (by rw [HN.out]; exact hw1)
  clear hw1 HNU
  go_wp2_with fail
  go_loopw [14] (fun i wr => ∃ k : Nat, i = .int .i64 k ∧ k ≤ n ∧ Hid (Sev num g r w out xs k wr)) (fun i _ => n - (intOf i).toNat)
  case atStart => exact ⟨0, rfl, Nat.zero_le _, H1⟩
  case round =>
    clear H1
    obtain ⟨k, rfl, hk, hrel⟩ := hrel
    by_cases hlt : k < n
    · have hlti : (k : Int) < (n : Int) := by omega
      have hkx : k < xs.length := by rw [HN.out]; exact hlt
      obtain ⟨r1, hs1, hr1, hk1⟩ := hrel.out
      obtain ⟨b, off, cs, rfl, hb, hc, hre⟩ := (HL.out.up (WTo.below HW.out hrel.out)).2 k hkx
      have HNX := Lib.hid (fun w2 => Sev.next (f := num) (w2 := w2) (out := out) hkx hr1 hk1)
      have HFU := Lib.hid (fun w2 => Sev.full (f := num) (w2 := w2) (xs := xs) (k := k) hr1 hk1 hs1)
      have HS1 := Lib.hid hs1
      have hgl := hs1.lt
      have hbl : b < wr.heap.size := Nat.lt_trans hb hgl
      obtain ⟨bb, f, v, g1, g2, _⟩ := hs1.st
      obtain ⟨rfl, hin⟩ := hre
      have c0 : wr.cell? ⟨b, off + k, none⟩ = some (.int .i64 xs[k]) := by simpa [intSh] using hc 0 _ rfl
      clear hs1 hr1 hk1 hrel hc g1
      generalize xs[k] = x at *
      have HB : Hid (Below wr.heap.size wr wr) := Below.refl _ _
      have HS2 := Lib.hid (HS1.out.below HB.out)
      have HC := Lib.hid (number_any g r1 _ x _ HS2.out hin)
      cases f with
      | true =>
        have HE := Lib.hid (HFU.out _ g2 HB.out)
        clear HFU HNX HC
        go_wp2_with fail
        go_end0
        exact ⟨rfl, HE.out⟩
      | false =>
        clear HFU
        go_wp2_with fail
        refine HC.out.mono ?_
        rintro e w5 ⟨rfl, hw5⟩
        have H5 := Lib.hid (HNX.out w5 (WTo.trans (.inl rfl) (KeptW.of_below HB.out) hw5))
        clear hw5 HNX HC
        go_wp2_with fail
        go_roundw
        case rel => exact ⟨k + 1, by go_num, by omega, H5⟩
        case measure => simp [intOf]; omega
    · have hlti : ¬ (k : Int) < (n : Int) := by omega
      obtain rfl : k = n := by omega
      have HE : Hid (WTo g r w (out ++ encList num xs) wr) := Sev.done (by rw [HN.out]; exact hrel.out)
      clear hrel
      go_wp2_with fail
      go_end0
      exact ⟨rfl, HE.out⟩
end Go.Proofs.Ytgaipfkblfommaa
