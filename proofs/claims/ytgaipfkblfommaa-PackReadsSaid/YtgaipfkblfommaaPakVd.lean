/- PackWrites: its walk. -/
import Derived.Test.YtgaipfkblfommaaPakVc
set_option linter.unusedVariables false
set_option linter.unusedSimpArgs false
namespace Go.Proofs.Ytgaipfkblfommaa
set_option maxRecDepth 100000
open Go.RowKit

theorem BRow.conv {B : Nat} {l : List UInt8} {v : Value} {w : World} (h : BRow B l v w) (hm : l.length ≤ 9223372036854775807) : (convert 27 9 v).run Try.prog w = .ok (.string ⟨l.toArray⟩) w := by
  obtain ⟨a, cap, rfl, hs⟩ := h.slot hm
  exact conv_bytes cap hs
theorem conv_nil (w : World) : (convert 27 9 (.slice none 0 0)).run Try.prog w = .ok (.string ⟨#[]⟩) w := conv_bytes (S := fun _ => True) (l := []) 0 (Sits.nil _ _ _ _)
theorem small_of {xs : List Rec} (h : LW xs) : Small xs := fun x hx => by have := (h.b x hx).a; omega
set_option maxHeartbeats 8000000 in
theorem packWrites_any (a : Option Addr) (n cap : Nat) (xs : List Rec) (w : World) (hn : xs.length = n) (hl : Sits recSh (Lo w.heap.size) w a xs) :
    Calls Try.prog 3 #[.agg #[.slice a n cap]] w fun e w' => e = .returned (.bool true) ∧ Below w.heap.size w w' := by
  have HA : Hid (Below w.heap.size w (w.alloc (.cells #[.slice a n cap] 24))) := (Below.refl _ _).alloc (Nat.le_refl _) _
  have HUP := Lib.hid (up_said12 (w.alloc (.cells #[.slice a n cap] 24)))
  have HL := Lib.hid (hl.below HA.out HA.out.size)
  have HN := Lib.hid hn
  have hq : w.heap.size < (w.alloc (.cells #[.slice a n cap] 24)).heap.size := by simp
  have hb0 : (w.alloc (.cells #[.slice a n cap] 24)).cell? ⟨w.heap.size, 0, none⟩ = some (.slice a n cap) := (cell_of_row _ _ _ _ _ _ (heap_alloc_new w _)).trans rfl
  have HX0 : Hid (∀ W, Below (w.alloc (.cells #[.slice a n cap] 24)).heap.size (w.alloc (.cells #[.slice a n cap] 24)) W → W.cell? ⟨w.heap.size, 0, none⟩ = some (.slice a n cap)) := fun W hW => (hW.cell (p := ⟨_, _, none⟩) hq).trans hb0
  clear hl hn hb0 hq
  go_enter Try.func3, Try.ntmps3
  go_wp2_with fail
  generalize w.alloc (.cells #[.slice a n cap] 24) = W0 at *
  refine HUP.out.mono ?_
  rintro e w1 ⟨rfl, hb1⟩
  have B1 := Lib.hid hb1
  have x1 := HX0.out w1 hb1
  have HLI := Lib.hid (rlight_any a n cap xs w1 HN.out (HL.out.below hb1 hb1.size))
  clear hb1 HUP
  go_wp2_with fail
  refine HLI.out.mono ?_
  rintro e w2 ⟨b, rfl, hb2, hbe⟩
  have B2 := Lib.hid (B1.out.trans (hb2.mono B1.out.size))
  have x2 := HX0.out w2 B2.out
  clear hb2 HLI x1
  cases b with
  | false =>
    have HE := Lib.hid (HA.out.trans (B2.out.mono HA.out.size))
    clear hbe
    go_wp2_with fail
    go_ret
    exact ⟨rfl, HE.out⟩
  | true =>
    have HLW := Lib.hid (hbe rfl)
    have HWR := Lib.hid (write_any a n cap xs w2 HN.out (small_of HLW.out) (HL.out.below B2.out B2.out.size))
    clear hbe
    go_wp2_with fail
    refine HWR.out.mono ?_
    rintro e w3 ⟨v3, er3, rfl, hb3, hgo3⟩
    have B3 := Lib.hid (B2.out.trans (hb3.mono B2.out.size))
    have x3 := HX0.out w3 B3.out
    have HG3 := Lib.hid hgo3
    have HRW := Lib.hid (rwrite_any a n cap xs w3 HN.out (HL.out.below B3.out B3.out.size) (enc_wit HL.out HLW.out))
    clear hb3 hgo3 HWR x2
    go_wp2_with fail
    refine HRW.out.mono ?_
    rintro e w4 ⟨v4, bad, rfl, hb4, hgo4⟩
    have B4 := Lib.hid (HA.out.trans ((B3.out.trans (hb4.mono B3.out.size)).mono HA.out.size))
    rcases HG3.out with ⟨h1, rfl, r3⟩ | ⟨h1, rfl, rfl⟩
    · obtain ⟨_, rfl, r4⟩ : (encWit xs).length ≤ 4194304 ∧ bad = 0 ∧ BRow w3.heap.size (encWit xs) v4 w4 := by
        rcases hgo4 with h | ⟨h, _⟩
        · exact h
        · omega
      have r3' : BRow w2.heap.size (encWit xs) v3 w3 := r3
      have c3 := (r3'.below hb4).conv (by omega)
      have c4 := r4.conv (by omega)
      obtain ⟨a3, cap3, rfl⟩ := r3'.slice
      obtain ⟨a4, cap4, rfl⟩ := r4.slice
      have HC := Lib.hid (code_nil w4)
      clear r3 r3' r4 hgo4 HG3 hb4 HRW x3
      generalize (encWit xs).length = m at *
      generalize (encWit xs).toArray = s at *
      go_wp2_with fail
      refine HC.out.mono ?_
      rintro e w5 ⟨rfl, rfl⟩
      go_wp2_with fail
      go_ret
      exact ⟨rfl, B4.out⟩
    · obtain ⟨_, rfl, rfl⟩ : 4194304 < (encWit xs).length ∧ bad = 2 ∧ v4 = .slice none 0 0 := by
        rcases hgo4 with ⟨h, _⟩ | h
        · omega
        · exact h
      have c3 := conv_nil w4
      have HC := Lib.hid (code_k 2 w4 (by decide) (by decide))
      unfold ErrLong
      clear hgo4 HG3 hb4 HRW x3
      go_wp2_with fail
      refine HC.out.mono ?_
      rintro e w5 ⟨rfl, rfl⟩
      go_wp2_with fail
      go_ret
      exact ⟨rfl, B4.out⟩
end Go.Proofs.Ytgaipfkblfommaa
