/- PackReads: its walk. -/
import Derived.Test.YtgaipfkblfommaaPakZe
import Derived.Test.YtgaipfkblfommaaPakYl
set_option linter.unusedVariables false
set_option linter.unusedSimpArgs false
namespace Go.Proofs.Ytgaipfkblfommaa
set_option maxRecDepth 100000
open Go.RowKit

set_option maxHeartbeats 16000000 in
theorem packReads_any (ba : Option Addr) (bl bcap : Nat) (l : List UInt8) (w : World) (hbl : l.length = bl) (hb : Sits byteSh (Lo w.heap.size) w ba l) (hbc : bl ≤ bcap ∧ bcap ≤ 9223372036854775807) (hnil : ba = none → bcap = 0) :
    Calls Try.prog 5 #[.slice ba bl bcap] w fun e w' => e = .returned (.bool true) ∧ Below w.heap.size w w' := by
  have HUP := Lib.hid (up_said12 w)
  have HB := Lib.hid hb
  have HBL := Lib.hid hbl
  have HBC := Lib.hid (And.intro hbc hnil)
  clear hb hbl hnil
  have hbl63 := hbc.1
  have hbl64 := hbc.2
  clear hbc
  go_enter Try.func5, Try.ntmps5
  go_wp2_with fail
  refine HUP.out.mono ?_
  rintro e w1 ⟨rfl, hb1⟩
  have B1 := Lib.hid hb1
  have HRD : Hid (Calls Try.prog 12 #[.slice ba bl bcap] w1 (ReadEnd l w1)) := by
    have := read_any ba l bcap w1 (HB.out.below hb1 hb1.size) (by rw [HBL.out]; exact HBC.out.1) HBC.out.2
    rwa [HBL.out] at this
  clear hb1 HUP
  by_cases hbig : (5000 : Int) < (bl : Int)
  · go_wp2_with fail
    go_ret
    exact ⟨rfl, B1.out⟩
  · have hln : l.length ≤ 5000 := by rw [HBL.out]; omega
    go_wp2_with fail
    refine HRD.out.mono ?_
    rintro e w4 ⟨v4, xs1, er1, n1, rfl, hri, ⟨a4, cap4, rfl, hs4⟩, hb4⟩
    have RI := Lib.hid hri
    have B4 := Lib.hid (bnext B1.out hb4)
    have HW4 : Below w4.heap.size w4 (w4.alloc (.cells #[.slice a4 xs1.length cap4] 24)) := (Below.refl _ _).alloc (Nat.le_refl _) _
    have P4 : Hid ((w4.alloc (.cells #[.slice a4 xs1.length cap4] 24)).cell? ⟨w4.heap.size, 0, none⟩ = some (.slice a4 xs1.length cap4)) := (cell_of_row _ _ _ _ _ _ (heap_alloc_new w4 _)).trans rfl
    have S4 : Hid (Sits recSh (fun b => w1.heap.size ≤ b ∧ b < w4.heap.size) (w4.alloc (.cells #[.slice a4 xs1.length cap4] 24)) a4 xs1) := hs4.on HW4 (fun b h => h.2)
    have B5 := Lib.hid (bnext B4.out HW4)
    have hz5 : (w4.alloc (.cells #[.slice a4 xs1.length cap4] 24)).heap.size = w4.heap.size + 1 := by simp
    have Z5 : Hid ((w4.alloc (.cells #[.slice a4 xs1.length cap4] 24)).heap.size = w4.heap.size + 1) := hz5
    have HDR : Hid (Calls Try.prog 13 #[.slice ba bl bcap] (w4.alloc (.cells #[.slice a4 xs1.length cap4] 24)) (RReadEnd l (w4.alloc (.cells #[.slice a4 xs1.length cap4] 24)))) := by
      have := dread_any ba l bcap (w4.alloc (.cells #[.slice a4 xs1.length cap4] 24)) (HB.out.below B5.out B5.out.size) (by rw [HBL.out]; exact HBC.out.1)
      rwa [HBL.out] at this
    clear hri hs4 hb4 HW4 hz5 HRD B1 B4
    go_wp2_with fail
    generalize w4.alloc (.cells #[.slice a4 xs1.length cap4] 24) = W5 at *
    refine HDR.out.mono ?_
    rintro e w6 ⟨v6, xs2, er2, n2, rfl, hri, ⟨a6, cap6, rfl, hs6⟩, hb6⟩
    obtain ⟨hxx, rfl, rfl⟩ := read_one RI.out hri
    subst hxx
    have HW6 : Below w6.heap.size w6 (w6.alloc (.cells #[.slice a6 xs1.length cap6] 24)) := (Below.refl _ _).alloc (Nat.le_refl _) _
    have hb7 : Below W5.heap.size W5 (w6.alloc (.cells #[.slice a6 xs1.length cap6] 24)) := bnext hb6 HW6
    have Q7 : Hid ((w6.alloc (.cells #[.slice a6 xs1.length cap6] 24)).cell? ⟨w6.heap.size, 0, none⟩ = some (.slice a6 xs1.length cap6)) := (cell_of_row _ _ _ _ _ _ (heap_alloc_new w6 _)).trans rfl
    have T7 : Hid (Sits recSh (fun b => W5.heap.size ≤ b ∧ b < w6.heap.size) (w6.alloc (.cells #[.slice a6 xs1.length cap6] 24)) a6 xs1) := hs6.on HW6 (fun b h => h.2)
    have P7 : Hid ((w6.alloc (.cells #[.slice a6 xs1.length cap6] 24)).cell? ⟨w4.heap.size, 0, none⟩ = some (.slice a4 xs1.length cap4)) := (hb7.cell (p := ⟨w4.heap.size, 0, none⟩) (by show w4.heap.size < _; have := Z5.out; omega)).trans P4.out
    have S7 : Hid (Sits recSh (fun b => w1.heap.size ≤ b ∧ b < w4.heap.size) (w6.alloc (.cells #[.slice a6 xs1.length cap6] 24)) a4 xs1) := S4.out.on hb7 (fun b h => by have := Z5.out; omega)
    have hz7 : (w6.alloc (.cells #[.slice a6 xs1.length cap6] 24)).heap.size = w6.heap.size + 1 := by simp
    have Z7 : Hid (w4.heap.size ≤ w6.heap.size ∧ (w6.alloc (.cells #[.slice a6 xs1.length cap6] 24)).heap.size = w6.heap.size + 1) := ⟨by have := Z5.out; have := hb6.size; omega, hz7⟩
    have B7 := Lib.hid (bnext B5.out hb7)
    have HXN := Lib.hid (read_enc RI.out (by omega))
    have p7 := P7.out
    have HW1 := Lib.hid (rwrite_any a4 xs1.length cap4 xs1 (w6.alloc (.cells #[.slice a6 xs1.length cap6] 24)) rfl (S7.out.lo (fun b h => by have := Z7.out; omega)) HXN.out)
    clear hri hs6 hb6 HW6 hb7 hz7 HDR P4 S4 B5 P7 S7 HB HBC Z5
    go_wp2_with fail
    generalize w6.alloc (.cells #[.slice a6 xs1.length cap6] 24) = W7 at *
    refine HW1.out.mono ?_
    intro e w8 hr8
    obtain ⟨v8, bad8, rfl, hb8, hrow8⟩ := rwrite_row hr8
    have q8 : w8.cell? ⟨w6.heap.size, 0, none⟩ = some (.slice a6 xs1.length cap6) := (hb8.cell (p := ⟨w6.heap.size, 0, none⟩) (by show w6.heap.size < _; have := Z7.out; omega)).trans Q7.out
    have B8 := Lib.hid (bnext B7.out hb8)
    have R8 : Hid (BRow W7.heap.size (lim (encWit xs1)) v8 w8) := hrow8
    have HW2 := Lib.hid (rwrite_any a6 xs1.length cap6 xs1 w8 rfl ((T7.out.on hb8 (fun b h => by have := Z7.out; omega)).lo (fun b h => by have := Z7.out; have := hb8.size; omega)) HXN.out)
    clear hr8 hb8 hrow8 HW1 p7 T7 Q7 B7 Z7
    go_wp2_with fail
    refine HW2.out.mono ?_
    intro e w9 hr9
    obtain ⟨v9, bad9, rfl, hb9, hrow9⟩ := rwrite_row hr9
    have BE := Lib.hid (bnext B8.out hb9)
    have d8 := (R8.out.below hb9).conv (by have := lim_len (encWit xs1); omega)
    have d9 := hrow9.conv (by have := lim_len (encWit xs1); omega)
    obtain ⟨a8, cap8, rfl⟩ := R8.out.slice
    obtain ⟨a9, cap9, rfl⟩ := hrow9.slice
    have HCO := Lib.hid (code_of RI.out w9)
    clear hr9 hb9 hrow9 HW2 R8 q8 B8 HXN RI
    generalize (lim (encWit xs1)).toArray = s1 at *
    generalize (lim (encWit xs1)).length = m1 at *
    go_wp2_with fail
    refine HCO.out.mono ?_
    rintro e w10 ⟨rfl, rfl⟩
    go_wp2_with fail
    go_ret
    exact ⟨rfl, BE.out⟩
end Go.Proofs.Ytgaipfkblfommaa
