/- Rows of bytes of the call's own; the document's Number. -/
import Derived.Test.YtgaipfkblfommaaPakI
set_option linter.unusedVariables false
set_option linter.unusedSimpArgs false
namespace Go.Proofs.Ytgaipfkblfommaa
set_option maxRecDepth 100000
open Go.RowKit

def byteSh : Sh UInt8 where
  k := 1
  rel := fun _ _ cs x => cs = [.int .u8 (x.toNat : Int)]
  len := fun h => by rw [h]; rfl
  one := fun h u hu => by rw [h] at hu; simp at hu; rw [hu]; rfl
  keep := fun _ _ h => h
/-- Bytes of the call's own. -/
def BRow (B : Nat) (l : List UInt8) (v : Value) (w : World) : Prop := w.ownsRow B 5 1 v l.length (Lib.byteCells l)
theorem BRow.nil (B : Nat) (w : World) : BRow B [] (.slice none 0 0) w := World.ownsRow_nil _ _ _ _
theorem BRow.below {B : Nat} {l : List UInt8} {v : Value} {w w' : World} (h : BRow B l v w) (hb : Below w.heap.size w w') : BRow B l v w' :=
  World.ownsRow.kept (row := none) h ⟨hb.os, hb.tape, hb.output, hb.size, fun q hq _ => hb.block q hq⟩ (by cases v.ownBlock <;> simp)
theorem BRow.lower {B B' : Nat} {l : List UInt8} {v : Value} {w : World} (h : BRow B l v w) (hb : B' ≤ B) : BRow B' l v w := by
  obtain ⟨h1, h2⟩ := h
  exact ⟨h1, h2.imp id fun ⟨g, cap', cur, e1, e2, e3⟩ => ⟨g, cap', cur, e1, Nat.le_trans hb e2, e3⟩⟩
theorem BRow.slice {B : Nat} {l : List UInt8} {v : Value} {w : World} (h : BRow B l v w) : ∃ a cap, v = .slice a l.length cap := own_slice h
theorem BRow.slot {B : Nat} {l : List UInt8} {v : Value} {w : World} (h : BRow B l v w) (hm : l.length ≤ 9223372036854775807) : Slot byteSh (fun b => B ≤ b ∧ b < w.heap.size) w v l := by
  have hc := fun g => World.ownsRow.cells h (g := g)
  have hlt := World.ownsRow.lt h
  obtain ⟨_, ⟨rfl, h0⟩ | ⟨g, cap, cur, rfl, _⟩⟩ := h
  · exact ⟨none, 0, by rw [h0], hm, fun i hi => by omega⟩
  · refine ⟨some ⟨g, 0, none⟩, cap, rfl, hm, fun i hi => ⟨g, 0, _, rfl, hlt g rfl, fun j u hu => ?_, rfl⟩⟩
    have hj : j = 0 := by have := (List.getElem?_eq_some_iff.1 hu).1; simp at this; exact this
    subst hj
    have := hc g rfl i (.int .u8 (l[i].toNat : Int)) (by simp [Lib.byteCells, hi])
    rw [show (⟨g, 0, none⟩ : Addr).add i = ⟨g, 0 + i, none⟩ by unfold Addr.add; split <;> simp_all] at this
    simp at hu
    subst hu
    simpa [byteSh] using this
/-- append(own, bytes...). -/
theorem run_cat {w : World} {B : Nat} {l m : List UInt8} {v u : Value} {S : Nat → Prop} (hv : BRow B l v w) (hu : Slot byteSh S w u m) (hB : B ≤ w.heap.size) (hsz : l.length + m.length ≤ 140000000000000) :
    ∃ v' w', (∀ ty, (Builtin.append_ #[27, 27] ty #[v, u]).run Try.prog w = .ok v' w') ∧ BRow B (l ++ m) v' w' ∧ Below B w w' := by
  obtain ⟨i0, hi, hz0, hz1, hz2⟩ := info_parts Try.infoByte
  obtain ⟨a, cap, rfl, hm, hs⟩ := hu
  have hvb := fun k (hk : v.ownBlock = some k) => (World.ownsRow.lt hv k hk).1
  by_cases h0 : m.length = 0
  · have hy : m = [] := List.length_eq_zero_iff.1 h0
    subst hy
    refine ⟨v, w, fun ty => ?_, by simpa using hv, Below.refl _ _⟩
    have hf : ∀ ad : Addr, (Builtin.firstCells 1 0 (.slice (some ad) 0 cap)).run Try.prog w = .ok #[] w := fun ad => run_firstCells_some w 1 0 ad 0 cap [] (by simp) (fun j u h => by cases h)
    have hf0 := run_firstCells_none (P := Try.prog) w 1 0 0 cap
    have ht := Try.underlying27
    rcases hv.2 with ⟨rfl, hl0⟩ | ⟨g, cap', cur, rfl, _, _, hnc, _⟩
    · cases a <;> simp [Builtin.append_, run_underlying ht, sizeOf, typeInfo, hi, hz1, Builtin.lenOf, hf, hf0]
    · cases a <;> simp [Builtin.append_, run_underlying ht, sizeOf, typeInfo, hi, hz1, Builtin.lenOf, hf, hf0, hnc, storeCells]
  · obtain ⟨b, off, cs, rfl, _⟩ := hs 0 (by omega)
    have hnews : ∀ j u, (Lib.byteCells m)[j]? = some u → w.cell? ((⟨b, off, none⟩ : Addr).add j) = some u := fun j u hj => by
      have hjl : j < m.length := by have := (List.getElem?_eq_some_iff.1 hj).1; simpa [Lib.byteCells] using this
      obtain ⟨b', off', cs, e, _, hc, rfl⟩ := hs j hjl
      injection e with e
      injection e with e1 e2 e3
      subst e1 e2
      have := hc 0 _ rfl
      rw [show (⟨b, off, none⟩ : Addr).add j = ⟨b, off + j, none⟩ by unfold Addr.add; split <;> simp_all]
      simp [Lib.byteCells, hjl] at hj
      subst hj
      simpa [byteSh] using this
    have hrun := fun ty => run_append_own_at (P := Try.prog) w B 27 ty 5 i0 _ 1 1 Try.underlying27 hi hz0 hz1 hz2 rfl (by decide) v l.length (Lib.byteCells l) hv ⟨b, off, none⟩ m.length cap (Lib.byteCells m) (by simp [Lib.byteCells]) hnews (fun u hu => by
      obtain ⟨x, _, rfl⟩ := List.mem_map.1 hu; rfl) (by unfold maxLen; omega) (by omega) hB
    obtain ⟨v', w', hr, h2, h3, _⟩ := hrun 27
    refine ⟨v', w', fun ty => hr, ?_, (Below.refl B w).grown h3 hB hvb⟩
    unfold BRow
    rw [List.length_append, Lib.byteCells_append]
    exact h2
theorem byte_new (w : World) (c : UInt8) (v : Int) (hv : v = (c.toNat : Int)) : Slot byteSh (fun _ => True) (w.alloc (.cells #[.int .u8 v] 5)) (.slice (some ⟨w.heap.size, 0, none⟩) 1 1) [c] := by
  subst hv
  refine ⟨_, _, rfl, by simp, fun i hi => ?_⟩
  have hi0 : i = 0 := by simp at hi; exact hi
  subst hi0
  refine ⟨_, _, [.int .u8 (c.toNat : Int)], rfl, trivial, fun j u hu => ?_, rfl⟩
  have hj : j = 0 := by have := (List.getElem?_eq_some_iff.1 hu).1; simp at this; exact this
  subst hj
  rw [cell_of_row _ _ _ _ _ _ (heap_alloc_new w _)]
  simpa using hu
/-- append(own, byte). -/
theorem run_snoc {w : World} {B : Nat} {l : List UInt8} {v : Value} (c : UInt8) (x : Int) (hx : x = (c.toNat : Int)) (hv : BRow B l v w) (hB : B ≤ w.heap.size) (hsz : l.length + 1 ≤ 140000000000000) :
    ∃ v' w', (∀ ty, (Builtin.append_ #[27, 27] ty #[v, .slice (some ⟨w.heap.size, 0, none⟩) 1 1]).run Try.prog (w.alloc (.cells #[.int .u8 x] 5)) = .ok v' w') ∧ BRow B (l ++ [c]) v' w' ∧ Below B w w' := by
  have hA : Below w.heap.size w (w.alloc (.cells #[.int .u8 x] 5)) := (Below.refl _ w).alloc (Nat.le_refl _) _
  obtain ⟨v', w', h1, h2, h3⟩ := run_cat (hv.below hA) (byte_new w c x hx) (Nat.le_trans hB hA.size) (by simpa using hsz)
  exact ⟨v', w', h1, h2, (hA.mono hB).trans h3⟩
def BEnd (l : List UInt8) (w : World) (e : Ending) (w' : World) : Prop := ∃ v, e = .returned v ∧ BRow w.heap.size l v w' ∧ Below w.heap.size w w'
theorem bconv (m : Nat) (h : m < 256) : (((m.toUInt8).toNat : Nat) : Int) = (m : Int) := by rw [Lib.toUInt8_toNat h]
set_option maxHeartbeats 4000000 in
theorem rnumber_any (x : Int) (w : World) (hx : i64 x) : Calls Try.prog 21 #[.int .i64 x] w (BEnd (num x) w) := by
  have HZ := Lib.hid (Lib.zigzag_lt hx.1 hx.2)
  have hx' := hx
  unfold i64 at hx'
  unfold num
  obtain ⟨z, hz⟩ : ∃ z, Lib.zigzag x = z := ⟨_, rfl⟩
  rw [hz] at HZ ⊢
  by_cases hneg : x < 0
  · have e0 : ¬ (0 : Int) ≤ x := by omega
    have HZN : Hid (2 * -(x + 1) + 1 = (z : Int)) := by
      show _ = _
      rw [← hz]
      unfold Lib.zigzag
      rw [if_neg e0]
      omega
    go_enter Try.func21, Try.ntmps21
    go_wp2_with fail
    clear hx hx' hz
    go_loopw [3, 4] (fun n o wr => ∃ (m : Nat) (pre : List UInt8), n = .int .u64 (m : Int) ∧ m < 18446744073709551616 ∧ Hid (pre ++ Lib.uvarint m = Lib.uvarint z) ∧ Hid (BRow w.heap.size pre o wr) ∧ Hid (Below w.heap.size w wr)) (fun n _ _ => (intOf n).toNat)
    case atStart => exact ⟨z, [], by rw [HZN.out], HZ.out, rfl, BRow.nil _ _, Below.refl _ _⟩
    case round =>
      obtain ⟨m, pre, rfl, hm, hpre, hrow, hb⟩ := hrel
      have HPL : Hid (pre.length ≤ 10) := by
        have h1 := Lib.uvarint_length64 HZ.out
        rw [← hpre.out, List.length_append] at h1
        show _ ≤ _
        omega
      by_cases hbig : (127 : Int) < (m : Int)
      · obtain ⟨v6, w6, hr6, ho6, hb6⟩ := run_snoc (m % 128 + 128).toUInt8 ((m : Int) % 128 + 128) (by rw [Lib.toUInt8_toNat (by omega)]; omega) hrow.out hb.out.size (by have := HPL.out; omega)
        have HN : Hid ((pre ++ [(m % 128 + 128).toUInt8]) ++ Lib.uvarint (m / 128) = Lib.uvarint z) := by
          show _ = _
          rw [← hpre.out, Lib.uvarint_big (x := m) (by omega), List.append_assoc]; rfl
        have HR6 := Lib.hid ho6
        have HB6 := Lib.hid (hb.out.trans hb6)
        clear hpre hrow hb ho6 hb6
        go_wp2_with (at_builtin; refine Lib.wpList_append_run _ rfl _ _ _ _ rfl _ _ rfl rfl _ _ (hr6 _) ?_)
        go_roundw
        case rel => exact ⟨m / 128, _, rfl, by omega, HN, HR6, HB6⟩
        case measure => simp [intOf]; omega
      · have e9 : (m : Int) % 256 = (m : Int) := by omega
        obtain ⟨v6, w6, hr6, ho6, hb6⟩ := run_snoc m.toUInt8 (m : Int) (by rw [Lib.toUInt8_toNat (by omega)]) hrow.out hb.out.size (by have := HPL.out; omega)
        have HE : Hid (BEnd (Lib.uvarint z) w (.returned v6) w6) := ⟨_, rfl, by rw [← hpre.out, Lib.uvarint_small (x := m) (by omega)]; exact ho6, hb.out.trans hb6⟩
        clear hpre hrow hb ho6 hb6
        go_wp2_with (at_builtin; refine Lib.wpList_append_run _ rfl _ _ _ _ rfl _ _ rfl rfl _ _ (hr6 _) ?_)
        go_ret
        exact HE.out
  · have e0 : (0 : Int) ≤ x := by omega
    have HZN : Hid (2 * x = (z : Int)) := by
      show _ = _
      rw [← hz]
      unfold Lib.zigzag
      rw [if_pos e0]
      omega
    go_enter Try.func21, Try.ntmps21
    go_wp2_with fail
    clear hx hx' hz
    go_loopw [3, 4] (fun n o wr => ∃ (m : Nat) (pre : List UInt8), n = .int .u64 (m : Int) ∧ m < 18446744073709551616 ∧ Hid (pre ++ Lib.uvarint m = Lib.uvarint z) ∧ Hid (BRow w.heap.size pre o wr) ∧ Hid (Below w.heap.size w wr)) (fun n _ _ => (intOf n).toNat)
    case atStart => exact ⟨z, [], by rw [HZN.out], HZ.out, rfl, BRow.nil _ _, Below.refl _ _⟩
    case round =>
      obtain ⟨m, pre, rfl, hm, hpre, hrow, hb⟩ := hrel
      have HPL : Hid (pre.length ≤ 10) := by
        have h1 := Lib.uvarint_length64 HZ.out
        rw [← hpre.out, List.length_append] at h1
        show _ ≤ _
        omega
      by_cases hbig : (127 : Int) < (m : Int)
      · obtain ⟨v6, w6, hr6, ho6, hb6⟩ := run_snoc (m % 128 + 128).toUInt8 ((m : Int) % 128 + 128) (by rw [Lib.toUInt8_toNat (by omega)]; omega) hrow.out hb.out.size (by have := HPL.out; omega)
        have HN : Hid ((pre ++ [(m % 128 + 128).toUInt8]) ++ Lib.uvarint (m / 128) = Lib.uvarint z) := by
          show _ = _
          rw [← hpre.out, Lib.uvarint_big (x := m) (by omega), List.append_assoc]; rfl
        have HR6 := Lib.hid ho6
        have HB6 := Lib.hid (hb.out.trans hb6)
        clear hpre hrow hb ho6 hb6
        go_wp2_with (at_builtin; refine Lib.wpList_append_run _ rfl _ _ _ _ rfl _ _ rfl rfl _ _ (hr6 _) ?_)
        go_roundw
        case rel => exact ⟨m / 128, _, rfl, by omega, HN, HR6, HB6⟩
        case measure => simp [intOf]; omega
      · have e9 : (m : Int) % 256 = (m : Int) := by omega
        obtain ⟨v6, w6, hr6, ho6, hb6⟩ := run_snoc m.toUInt8 (m : Int) (by rw [Lib.toUInt8_toNat (by omega)]) hrow.out hb.out.size (by have := HPL.out; omega)
        have HE : Hid (BEnd (Lib.uvarint z) w (.returned v6) w6) := ⟨_, rfl, by rw [← hpre.out, Lib.uvarint_small (x := m) (by omega)]; exact ho6, hb.out.trans hb6⟩
        clear hpre hrow hb ho6 hb6
        go_wp2_with (at_builtin; refine Lib.wpList_append_run _ rfl _ _ _ _ rfl _ _ rfl rfl _ _ (hr6 _) ?_)
        go_ret
        exact HE.out
end Go.Proofs.Ytgaipfkblfommaa
