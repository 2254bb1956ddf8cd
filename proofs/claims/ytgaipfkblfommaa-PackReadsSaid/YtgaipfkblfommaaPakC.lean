/- The writer: a number; a text. -/
import Derived.Test.YtgaipfkblfommaaPakB
set_option linter.unusedVariables false
set_option linter.unusedSimpArgs false
namespace Go.Proofs.Ytgaipfkblfommaa
set_option maxRecDepth 100000
open Go.RowKit

theorem shr7 (m : Nat) (W : World) : (binOp .shr 81 (.int .u64 (m : Int)) (.int .u64 7)).run Try.prog W = .ok (.int .u64 ((m / 128 : Nat) : Int)) W := by
  have e : ((m : Int) / 128) = ((m / 128 : Nat) : Int) := rfl
  simp [go_sem]
theorem size_list (s : ByteArray) : s.data.toList.length = s.size := by rw [Array.length_toList]; rfl
set_option maxHeartbeats 2000000 in
theorem text_any (g : Nat) (r : Option Nat) (out : List UInt8) (s : ByteArray) (w : World) (h : WS g r out w) (hs : s.size ≤ 140000000000000) :
    Calls Try.prog 18 #[.pointer (some ⟨g, 0, none⟩), .string s] w (WEnd g r w (out ++ s.data.toList)) := by
  have HW := Lib.hid h
  obtain ⟨b, f, v, g1, g2, g3, g4, g5, g6, g7⟩ := h.st
  have f0 := h.fr 0
  have f1 := h.fr 1
  clear h
  have hw1 : IntKind.i64.wrap (4194304 - (b.length : Int)) = 4194304 - (b.length : Int) := IntWalk.i64_in _ (by omega)
  by_cases hfull : 4194304 - (b.length : Int) < (s.size : Int)
  · have HE : Hid (WEnd g r w (out ++ s.data.toList) (.returned (.tuple #[])) (w.setCell ⟨g, 1, none⟩ (.bool true))) := ⟨rfl, HW.out.fill (by
      rw [List.length_append, size_list]
      cases f with
      | false => rw [← g6 rfl]; omega
      | true => have := g7 rfl; omega)⟩
    obtain ⟨a, cap, rfl⟩ := own_slice g3
    clear g3 g4 g5 g6 g7
    go_enter Try.func18, Try.ntmps18
    go_wp2_with fail
    go_end0
    exact HE.out
  · have HI := Lib.hid g3
    have HB6 := Lib.hid g6
    have HB7 := Lib.hid g7
    have H4 := Lib.hid g4
    obtain ⟨a, cap, rfl⟩ := own_slice g3
    clear g3 g4 g6 g7
    obtain ⟨i0, hi, hz0, hz1, hz2⟩ := info_parts Try.infoByte
    have hrun := fun ty => run_text_own (P := Try.prog) w (g + 1) 27 9 ty 5 i0 Try.underlying27 Try.underlying9 hi hz0 hz1 hz2 (.slice a b.length cap) b.length (Lib.byteCells b) HI.out s (by omega) HW.out.lt
    obtain ⟨v6, w6, hr6, ho6, hg6, hv6⟩ := hrun 27
    have hr6 : ∀ ty, (Builtin.append_ #[27, 9] ty #[.slice a b.length cap, .string s]).run Try.prog w = .ok v6 w6 := fun ty => hr6
    have hlt := HW.out.lt
    have hrow0 := World.ownsRow.lt HI.out
    have k6 : w6.heap[g]? = w.heap[g]? := hg6.block g hlt (fun e => by have := hrow0 g e.symm; omega)
    have q0 : w6.cell? ⟨g, 0, none⟩ = some (.slice a b.length cap) := (World.cell?_of_block (a := ⟨g, 0, none⟩) k6).trans g1
    have q1 : w6.frozen? ⟨g, 0, none⟩ = false := (World.frozen?_of_block (a := ⟨g, 0, none⟩) k6).trans f0
    have HE : Hid (WEnd g r w (out ++ s.data.toList) (.returned (.tuple #[])) (w6.setCell ⟨g, 0, none⟩ v6)) := by
      refine ⟨rfl, HW.out.put g1 g2 HI.out H4.out HB6.out HB7.out (Below.refl _ _) hg6 hv6 (e := s.data.toList) ?_ (by rw [List.length_append, size_list]; omega)⟩
      rw [Lib.byteCells_append, size_list]
      exact ho6
    obtain ⟨a6, cap6, rfl⟩ := own_slice ho6
    clear hrun ho6 hg6 hv6 k6 hrow0
    go_enter Try.func18, Try.ntmps18
    go_wp2_with (at_builtin; refine Lib.wpList_append_run _ rfl _ _ _ _ rfl _ _ rfl rfl _ _ (hr6 _) ?_)
    go_end0
    exact HE.out
theorem put_is (g : Nat) (r : Option Nat) (out : List UInt8) (v : Int) (c : UInt8) (w : World) (h : WS g r out w) (hv : v = (c.toNat : Int)) :
    Calls Try.prog 27 #[.pointer (some ⟨g, 0, none⟩), .int .u8 v] w (WEnd g r w (out ++ [c])) := by
  subst hv
  exact put_any g r out c w h
set_option maxHeartbeats 4000000 in
theorem number_any (g : Nat) (r : Option Nat) (out : List UInt8) (x : Int) (w : World) (h : WS g r out w) (hx : i64 x) :
    Calls Try.prog 17 #[.pointer (some ⟨g, 0, none⟩), .int .i64 x] w (WEnd g r w (out ++ num x)) := by
  have HW := Lib.hid h
  have HXX := Lib.hid hx
  have HZ := Lib.hid (Lib.zigzag_lt hx.1 hx.2)
  clear h
  unfold num
  obtain ⟨z, hz⟩ : ∃ z, Lib.zigzag x = z := ⟨_, rfl⟩
  rw [hz] at HZ ⊢
  by_cases hneg : x < 0
  · have e1 := Lib.zigzag_neg hx.1 hneg
    rw [hz] at e1
    clear hz
    go_enter Try.func17, Try.ntmps17
    go_wp2_with fail
    skip
    clear e1
    clear HXX hx
    go_loopw [4] (fun n wr => ∃ (m : Nat) (pre : List UInt8), n = .int .u64 (m : Int) ∧ m < 18446744073709551616 ∧ Hid (pre ++ Lib.uvarint m = Lib.uvarint z) ∧ Hid (WTo g r w (out ++ pre) wr)) (fun n _ => (intOf n).toNat)
    case atStart => exact ⟨z, [], rfl, HZ.out, rfl, by rw [List.append_nil]; exact WTo.refl HW.out⟩
    case round =>
      obtain ⟨m, pre, rfl, hm, hpre, hw⟩ := hrel
      obtain ⟨r1, hs1, hr1, hk1⟩ := hw.out
      by_cases hbig : (127 : Int) < (m : Int)
      · have hb : bits .or .u8 ((m : Int) % 256) 128 = (m : Int) % 128 + 128 := by
          rw [Lib.u8_or128_any _ (by omega) (by omega)]
          omega
        have HP := Lib.hid (fun v (hv : v = (m : Int) % 128 + 128) => put_is g r1 (out ++ pre) v (m % 128 + 128).toUInt8 wr hs1 (by rw [hv, Lib.toUInt8_toNat (by omega)]; omega))
        have HN : Hid ((pre ++ [(m % 128 + 128).toUInt8]) ++ Lib.uvarint (m / 128) = Lib.uvarint z) := by
          show _ = _
          rw [← hpre.out, Lib.uvarint_big (x := m) (by omega), List.append_assoc]; rfl
        have HT : Hid (∀ w', WTo g r1 wr (out ++ pre ++ [(m % 128 + 128).toUInt8]) w' → WTo g r w (out ++ (pre ++ [(m % 128 + 128).toUInt8])) w') := fun w' hw' => by
          rw [← List.append_assoc]; exact WTo.trans hr1 hk1 hw'
        have hsh := fun W => shr7 m W
        clear hpre hw hs1 hr1 hk1
        go_wp2_with fail
        refine (HP.out _ (by first | rfl | omega)).mono ?_
        rintro e w5 ⟨rfl, hw5⟩
        have H5 := Lib.hid (HT.out w5 hw5)
        clear hw5 HT HP hb
        go_wp2_with fail
        go_roundw
        case rel => exact ⟨m / 128, _, rfl, by omega, HN, H5⟩
        case measure => simp [intOf]; omega
      · have hb : (m : Int) % 256 = (m : Int) := by omega
        have HP := Lib.hid (fun v (hv : v = (m : Int)) => put_is g r1 (out ++ pre) v m.toUInt8 wr hs1 (by rw [hv, Lib.toUInt8_toNat (by omega)]))
        have HT : Hid (∀ w', WTo g r1 wr (out ++ pre ++ [m.toUInt8]) w' → WTo g r w (out ++ Lib.uvarint z) w') := fun w' hw' => by
          rw [← hpre.out, Lib.uvarint_small (x := m) (by omega), ← List.append_assoc]; exact WTo.trans hr1 hk1 hw'
        clear hpre hw hs1 hr1 hk1
        go_wp2_with fail
        refine (HP.out _ (by first | rfl | omega)).mono ?_
        rintro e w5 ⟨rfl, hw5⟩
        have H5 := Lib.hid (HT.out w5 hw5)
        clear hw5 HT HP hb
        go_wp2_with fail
        go_end0
        exact ⟨rfl, H5.out⟩
  · have e1 : IntKind.u64.wrap (IntKind.u64.wrap x * 2) = (z : Int) := by
      rw [← hz, Lib.zigzag_nonneg (by omega), IntKind.wrap_u64, IntKind.wrap_u64]
      unfold i64 at hx
      omega
    clear hz
    go_enter Try.func17, Try.ntmps17
    go_wp2_with fail
    skip
    clear e1
    clear HXX hx
    go_loopw [4] (fun n wr => ∃ (m : Nat) (pre : List UInt8), n = .int .u64 (m : Int) ∧ m < 18446744073709551616 ∧ Hid (pre ++ Lib.uvarint m = Lib.uvarint z) ∧ Hid (WTo g r w (out ++ pre) wr)) (fun n _ => (intOf n).toNat)
    case atStart => exact ⟨z, [], rfl, HZ.out, rfl, by rw [List.append_nil]; exact WTo.refl HW.out⟩
    case round =>
      obtain ⟨m, pre, rfl, hm, hpre, hw⟩ := hrel
      obtain ⟨r1, hs1, hr1, hk1⟩ := hw.out
      by_cases hbig : (127 : Int) < (m : Int)
      · have hb : bits .or .u8 ((m : Int) % 256) 128 = (m : Int) % 128 + 128 := by
          rw [Lib.u8_or128_any _ (by omega) (by omega)]
          omega
        have HP := Lib.hid (fun v (hv : v = (m : Int) % 128 + 128) => put_is g r1 (out ++ pre) v (m % 128 + 128).toUInt8 wr hs1 (by rw [hv, Lib.toUInt8_toNat (by omega)]; omega))
        have HN : Hid ((pre ++ [(m % 128 + 128).toUInt8]) ++ Lib.uvarint (m / 128) = Lib.uvarint z) := by
          show _ = _
          rw [← hpre.out, Lib.uvarint_big (x := m) (by omega), List.append_assoc]; rfl
        have HT : Hid (∀ w', WTo g r1 wr (out ++ pre ++ [(m % 128 + 128).toUInt8]) w' → WTo g r w (out ++ (pre ++ [(m % 128 + 128).toUInt8])) w') := fun w' hw' => by
          rw [← List.append_assoc]; exact WTo.trans hr1 hk1 hw'
        have hsh := fun W => shr7 m W
        clear hpre hw hs1 hr1 hk1
        go_wp2_with fail
        refine (HP.out _ (by first | rfl | omega)).mono ?_
        rintro e w5 ⟨rfl, hw5⟩
        have H5 := Lib.hid (HT.out w5 hw5)
        clear hw5 HT HP hb
        go_wp2_with fail
        go_roundw
        case rel => exact ⟨m / 128, _, rfl, by omega, HN, H5⟩
        case measure => simp [intOf]; omega
      · have hb : (m : Int) % 256 = (m : Int) := by omega
        have HP := Lib.hid (fun v (hv : v = (m : Int)) => put_is g r1 (out ++ pre) v m.toUInt8 wr hs1 (by rw [hv, Lib.toUInt8_toNat (by omega)]))
        have HT : Hid (∀ w', WTo g r1 wr (out ++ pre ++ [m.toUInt8]) w' → WTo g r w (out ++ Lib.uvarint z) w') := fun w' hw' => by
          rw [← hpre.out, Lib.uvarint_small (x := m) (by omega), ← List.append_assoc]; exact WTo.trans hr1 hk1 hw'
        clear hpre hw hs1 hr1 hk1
        go_wp2_with fail
        refine (HP.out _ (by first | rfl | omega)).mono ?_
        rintro e w5 ⟨rfl, hw5⟩
        have H5 := Lib.hid (HT.out w5 hw5)
        clear hw5 HT HP hb
        go_wp2_with fail
        go_end0
        exact ⟨rfl, H5.out⟩
end Go.Proofs.Ytgaipfkblfommaa
