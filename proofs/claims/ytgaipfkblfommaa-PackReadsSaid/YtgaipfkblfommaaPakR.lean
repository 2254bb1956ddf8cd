/- The reader: a text; what several are. -/
import Derived.Test.YtgaipfkblfommaaPakQ
import Derived.Test.YtgaipfkblfommaaPakN
set_option linter.unusedVariables false
set_option linter.unusedSimpArgs false
namespace Go.Proofs.Ytgaipfkblfommaa
set_option maxRecDepth 100000
open Go.RowKit

/-- string(bytes). -/
theorem conv_bytes {w : World} {S : Nat → Prop} {a : Option Addr} {l : List UInt8} (cap : Nat) (hs : Sits byteSh S w a l) : (convert 27 9 (.slice a l.length cap)).run Try.prog w = .ok (.string ⟨l.toArray⟩) w := by
  cases a with
  | none =>
    have h0 : l = [] := by
      cases l with
      | nil => rfl
      | cons x l => obtain ⟨_, _, _, e, _⟩ := hs.2 0 (by simp); cases e
    subst h0
    show (convert 27 9 (.slice none 0 cap)).run Try.prog w = _
    rw [run_convert_bytes_string w _ _ 5 none 0 cap Try.underlying27 Try.underlying5 Try.underlying9]
    rfl
  | some a =>
    refine run_convert_bytes_back w _ _ 5 a cap l Try.underlying27 Try.underlying5 Try.underlying9 (fun j hj => ?_)
    obtain ⟨b, off, cs, e, _, hc, rfl⟩ := hs.2 j hj
    injection e with e
    subst e
    have := hc 0 _ rfl
    rw [show (⟨b, off, none⟩ : Addr).add j = ⟨b, off + j, none⟩ by unfold Addr.add; split <;> simp_all]
    simpa [byteSh] using this
def Vt (_ _ : World) (v : Value) (s : ByteArray) : Prop := v = .string s
theorem sits_take {g : Nat} {w : World} {a : Option Addr} {rest : List UInt8} (h : Sits byteSh (Lo g) w a rest) (k : Nat) : Sits byteSh (Lo g) w a (rest.take k) := by
  refine ⟨by rw [List.length_take]; have := h.1; omega, fun i hi => ?_⟩
  rw [List.length_take] at hi
  obtain ⟨b, off, cs, e, hb, h1, h2⟩ := h.2 i (by omega)
  exact ⟨b, off, cs, e, hb, h1, by rw [List.getElem_take]; exact h2⟩
set_option maxHeartbeats 4000000 in
theorem rdtext_any (g : Nat) (st : Option (List UInt8)) (x : Int) (w : World) (h : RSt g st w) (hx : i64 x) :
    Calls Try.prog 38 #[.pointer (some ⟨g, 0, none⟩), .int .i64 x] w (PEnd Vt (pText x) g st w) := by
  by_cases hok : ∃ rest, st = some rest ∧ 0 ≤ x ∧ x ≤ rest.length
  · obtain ⟨rest, rfl, h0, h1⟩ := hok
    have h : RS g rest false w := h
    obtain ⟨n, rfl⟩ := Int.eq_ofNat_of_zero_le h0
    have hn : n ≤ rest.length := by omega
    have f0 := h.fr 0
    obtain ⟨a, c, g1, g2, g3, g4, g5, g6⟩ := h.st
    have hb1 : ¬ ((n : Int) < 0) := by omega
    have hb2 : ¬ ((rest.length : Int) < (n : Int)) := by omega
    have hcv := conv_bytes n (sits_take g3 n)
    rw [List.length_take, Nat.min_eq_left hn] at hcv
    have hcn : n ≤ c := by omega
    have hnc : (n : Int) ≤ (c : Int) := by omega
    have hcv2 := fun cap => conv_bytes cap (sits_take g3 n)
    simp only [List.length_take, Nat.min_eq_left hn] at hcv2
    have HE : Hid (∀ ad2, Sits byteSh (Lo g) w ad2 (rest.drop n) → (ad2 = none → c - n = 0) → PEnd Vt (pText n) g (some rest) w (.returned (.string ⟨(rest.take n).toArray⟩)) (w.setCell ⟨g, 0, none⟩ (.slice ad2 (rest.length - n) (c - n)))) := fun ad2 hs hnl => ⟨_, ⟨(rest.take n).toArray⟩, rfl, rfl, by
      have e : nxt (pText n) (some rest) = some (rest.drop n) := by simp [nxt, pText, hn]
      rw [e]
      have := h.rest (rest2 := rest.drop n) hs (c2 := c - n) (by rw [List.length_drop]; omega) (by omega) hnl (by rw [List.length_drop]; omega)
      rw [List.length_drop] at this
      exact this, fun y r e => by simp [pText, hn] at e; exact e.1, KeptG.set⟩
    have HT := Lib.hid (fun ad2 had => sits_tail (ad2 := ad2) g3 n had)
    clear h
    by_cases hr : n < rest.length
    · obtain ⟨b, off, cs, rfl, _⟩ := g3.2 n hr
      have HE2 := Lib.hid (HE.out (some ⟨b, off + n, none⟩) (HT.out _ (fun _ => ⟨b, off, rfl, rfl⟩)) (fun e => by cases e))
      clear HE HT g3
      go_enter Try.func38, Try.ntmps38
      go_wp2_with (refine wpList_conv_run rfl 27 9 _ rfl _ _ _ rfl (hcv2 _) ?_)
      go_ret
      exact HE2.out
    · have HE2 := Lib.hid (fun ad2 => HE.out ad2 (HT.out ad2 (fun h => absurd h hr)))
      clear HE HT g3
      have hrn : rest.length = n := by omega
      rw [hrn] at g1 HE2
      simp only [Nat.sub_self] at HE2
      rcases a with _ | ⟨b, off, sp⟩
      · obtain rfl := g6 rfl
        obtain rfl : n = 0 := by omega
        have HE3 := Lib.hid (HE2.out none (fun _ => rfl))
        clear HE2
        go_enter Try.func38, Try.ntmps38
        go_wp2_with (refine wpList_conv_run rfl 27 9 _ rfl _ _ _ rfl (hcv2 _) ?_)
        go_ret
        exact HE3.out
      · obtain ⟨ad2, had2⟩ : ∃ ad2 : Option Addr, (if c = n then (some ⟨b, off, sp⟩ : Option Addr) else some ((⟨b, off, sp⟩ : Addr).add n)) = ad2 := ⟨_, rfl⟩
        have HE3 := Lib.hid (HE2.out ad2 (fun e => by rw [← had2] at e; split at e <;> cases e))
        clear HE2
        go_enter Try.func38, Try.ntmps38
        go_wp2_with (refine wpList_conv_run rfl 27 9 _ rfl _ _ _ rfl (hcv2 _) ?_)
        go_ret
        exact HE3.out
  · have HF : Hid (∀ rest bad, RS g rest bad w → (bad = true ∨ x < 0 ∨ (rest.length : Int) < x)) := fun rest bad h2 => by
      cases bad with
      | true => exact .inl rfl
      | false =>
        refine .inr ?_
        by_cases h0 : x < 0
        · exact .inl h0
        · right
          cases st with
          | none =>
            obtain ⟨r2, h3⟩ := h
            obtain ⟨_, _, _, b1, _⟩ := h3.st
            obtain ⟨_, _, _, b2, _⟩ := h2.st
            rw [b1] at b2
            cases b2
          | some r2 =>
            have h3 : RS g r2 false w := h
            obtain ⟨_, _, b1, _⟩ := h3.st
            obtain ⟨_, _, b2, _⟩ := h2.st
            rw [b1] at b2
            have e : r2.length = rest.length := by simp at b2; exact b2.2.1
            exact Int.not_le.1 fun h4 => hok ⟨r2, rfl, by omega, by omega⟩
    have hn : st.bind (pText x) = none := by
      cases st with
      | none => rfl
      | some r2 =>
        simp only [Option.bind_some, pText]
        rw [if_neg (fun h4 => hok ⟨r2, rfl, h4.1, h4.2⟩)]
    have key : ∀ rest bad, RS g rest bad w → Calls Try.prog 38 #[.pointer (some ⟨g, 0, none⟩), .int .i64 x] w (PEnd Vt (pText x) g st w) := fun rest bad h2 => by
      have HE : Hid (PEnd Vt (pText x) g st w (.returned (.string ByteArray.empty)) (w.setCell ⟨g, 1, none⟩ (.bool true))) := ⟨_, _, rfl, rfl, by unfold nxt; rw [hn]; exact h2.fail, fun y r e => (by rw [hn] at e; cases e), KeptG.set⟩
      have hc := HF.out rest bad h2
      have f1 := h2.fr 1
      obtain ⟨a, c, g1, g2, _⟩ := h2.st
      clear h h2 hn hok HF
      cases bad with
      | true =>
        clear hc
        go_enter Try.func38, Try.ntmps38
        go_wp2_with fail
        go_ret
        exact HE.out
      | false =>
        by_cases h0 : x < 0
        · clear hc
          go_enter Try.func38, Try.ntmps38
          go_wp2_with fail
          go_ret
          exact HE.out
        · have h1 : (rest.length : Int) < x := by
            rcases hc with hc | hc | hc
            · cases hc
            · exact absurd hc h0
            · exact hc
          clear hc
          go_enter Try.func38, Try.ntmps38
          go_wp2_with fail
          go_ret
          exact HE.out
    cases st with
    | none => obtain ⟨rest, h2⟩ := h; exact key rest true h2
    | some rest => exact key rest false h
end Go.Proofs.Ytgaipfkblfommaa
