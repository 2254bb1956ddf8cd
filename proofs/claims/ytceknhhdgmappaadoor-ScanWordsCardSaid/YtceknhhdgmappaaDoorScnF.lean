/- Keys and names: the code's, the document's. -/
import Derived.Test.YtceknhhdgmappaaDoorScnE
import Derived.Test.YtceknhhdgmappaaDoorLdl
import Derived.Test.YtceknhhdgmappaaDoorErrC
import Derived.Lib.Strings
set_option linter.unusedVariables false
set_option linter.unusedSimpArgs false
namespace Go.Proofs.YtceknhhdgmappaaDoor
set_option maxRecDepth 100000
open Go.RowKit

def keyA (i : Nat) : ByteArray := ⟨(keysL.getD i []).toArray⟩
def opA (i : Nat) : ByteArray := ⟨(opsL.getD i []).toArray⟩
theorem keyA_data (i : Nat) : (keyA i).data.toList = keysL.getD i [] := by simp [keyA]
theorem opA_data (i : Nat) : (opA i).data.toList = opsL.getD i [] := by simp [opA]
def keysV : List Value := keysL.map fun l => .string ⟨l.toArray⟩
def opsV : List Value := opsL.map fun l => .string ⟨l.toArray⟩
theorem keysV_at {i : Nat} (h : i < 19) : keysV[i]? = some (.string (keyA i)) := by
  have h2 : i < keysL.length := h
  simp [keysV, keyA, List.getElem?_eq_getElem h2]
theorem opsV_at {i : Nat} (h : i < 21) : opsV[i]? = some (.string (opA i)) := by
  have h2 : i < opsL.length := h
  simp [opsV, opA, List.getElem?_eq_getElem h2]
/-- The listed variables, laid. -/
structure Laid (w : World) : Prop where
  keys : ∀ j v, keysV[j]? = some v → w.cell? ⟨0, j, none⟩ = some v
  ops : ∀ j v, opsV[j]? = some v → w.cell? ⟨1, j, none⟩ = some v
  err : Laid0 w
  syn : ∃ t v, w.cell? ⟨3, 0, none⟩ = some (.iface t v)
  rng : ∃ t v, w.cell? ⟨4, 0, none⟩ = some (.iface t v)
theorem Laid.pos {w : World} (h : Laid w) : 4 < w.heap.size := by
  obtain ⟨t, v, h⟩ := h.rng
  exact block_lt_of_cell (a := ⟨4, 0, none⟩) h
theorem Laid.below {w w' : World} {B : Nat} (h : Laid w) (hb : Below B w w') (hB : 4 < B) : Laid w' :=
  ⟨fun j v hv => (hb.cell (p := ⟨0, j, none⟩) (show 0 < B by omega)).trans (h.keys j v hv), fun j v hv => (hb.cell (p := ⟨1, j, none⟩) (show 1 < B by omega)).trans (h.ops j v hv), h.err.below hb (by omega),
    by obtain ⟨t, v, e⟩ := h.syn; exact ⟨t, v, (hb.cell (p := ⟨3, 0, none⟩) (show 3 < B by omega)).trans e⟩, by obtain ⟨t, v, e⟩ := h.rng; exact ⟨t, v, (hb.cell (p := ⟨4, 0, none⟩) hB).trans e⟩⟩
theorem Laid.up {w w' : World} (h : Laid w) (hb : Below w.heap.size w w') : Laid w' := h.below hb h.pos
theorem keyA_ne {s : ByteArray} {i : Nat} : ((keyA i).toList == s.toList) = decide (keysL.getD i [] = s.data.toList) := by
  rw [Bool.eq_iff_iff]
  simp only [Lib.toList_data, keyA_data, beq_iff_eq, decide_eq_true_eq]
theorem keyB_hit2 {s : ByteArray} {i : Nat} (h : i < 19) (e : keysL.getD i [] = s.data.toList) : keyB s.data.toList = true :=
  keyB_hit (i := i) h (by rw [List.getD_eq_getElem?_getD, List.getElem?_eq_getElem (show i < keysL.length from h)] at e; exact e)
theorem keyB_miss2 {s : ByteArray} (h : ∀ i, i < 19 → keysL.getD i [] ≠ s.data.toList) : keyB s.data.toList = false :=
  keyB_miss fun i hi e => h i hi (by rw [List.getD_eq_getElem?_getD, List.getElem?_eq_getElem hi]; exact e)
set_option maxHeartbeats 1000000 in
theorem key_any (s : ByteArray) (w : World) (hL : Laid w) : Calls Tryd.prog 11 #[.string s] w fun e w' => e = .returned (.bool (keyB s.data.toList)) ∧ w = w' := by
  have hk := hL.keys
  have HX : Hid (∀ (i : Nat) W, i < 19 → (Instr.index 49 (.agg keysV.toArray) (.int .i64 i)).run Tryd.prog W = .ok (.string (keyA i)) W) := fun i W h =>
    run_index_list W _ 9 19 keysV i _ Tryd.underlying49 h (keysV_at h) Tryd.underlying9 (by kernel_rfl)
  have HL : Hid (keysV.length = 19) := rfl
  have HH := Lib.hid (fun i (h : i < 19) => keyB_hit2 (s := s) h)
  have HM := Lib.hid (keyB_miss2 (s := s))
  have hk' : ∀ j v, keysV[j]? = some v → w.cell? ((⟨0, 0, none⟩ : Addr).add j) = some v := fun j v hv => by
    rw [show (⟨0, 0, none⟩ : Addr).add j = ⟨0, j, none⟩ by unfold Addr.add; split <;> simp_all]
    exact hk j v hv
  have HK := Lib.hid hk'
  clear hL hk hk'
  generalize keysV = kv at *
  generalize keyB s.data.toList = r at *
  go_enter Tryd.func11, Tryd.ntmps11
  go_wp2_with (refine wpList_load_list rfl 49 _ rfl ⟨0, 0, none⟩ rfl kv _ HK.out Tryd.underlying49 rfl (by rw [HL.out]; kernel_rfl) ?_)
  go_loop [6] (fun i => ∃ j : Nat, j ≤ 19 ∧ i = .int .i64 j ∧ Hid (∀ q, q < j → keysL.getD q [] ≠ s.data.toList)) (fun i => 19 - (intOf i).toNat)
  case atStart => exact ⟨0, Nat.zero_le _, rfl, fun q h => absurd h (Nat.not_lt_zero _)⟩
  case round =>
    obtain ⟨j, hj, rfl, hno⟩ := hrel
    by_cases hlt : j < 19
    · have hlti : (j : Int) < 19 := by omega
      have hx : ∀ W, (Instr.index 49 (.agg kv.toArray) (.int .i64 j)).run Tryd.prog W = .ok (.string (keyA j)) W := fun W => HX.out j W hlt
      have he := keyA_ne (s := s) (i := j)
      by_cases hq : keysL.getD j [] = s.data.toList
      · obtain rfl := HH.out j hlt hq
        rw [decide_eq_true hq] at he
        clear hq
        go_wp2
        go_ret
        exact ⟨rfl, rfl⟩
      · have hno2 : Hid (∀ q, q < j + 1 → keysL.getD q [] ≠ s.data.toList) := fun q h => by
          by_cases e : q = j
          · rw [e]; exact hq
          · exact hno.out q (by omega)
        rw [decide_eq_false hq] at he
        clear hq
        go_wp2
        go_round
        case rel => exact ⟨j + 1, by omega, by go_num, hno2⟩
        case measure => simp [intOf]; omega
    · obtain rfl : j = 19 := by omega
      obtain rfl := HM.out (fun i h => hno.out i h)
      go_wp2
      go_ret
      exact ⟨rfl, rfl⟩
set_option maxHeartbeats 1000000 in
theorem rkey_any (s : ByteArray) (w : World) : Calls Tryd.prog 12 #[.string s] w fun e w' => e = .returned (.bool (keyB s.data.toList)) ∧ Below w.heap.size w w' := by
  have HC : Hid (∀ j, j < 19 → (w.alloc (.cells #[.string ⟨#[112, 114, 111, 99]⟩, .string ⟨#[114, 101, 113, 117, 105, 114, 101, 115]⟩, .string ⟨#[101, 110, 115, 117, 114, 101, 115]⟩, .string ⟨#[115, 107, 105, 112]⟩, .string ⟨#[112, 117, 116]⟩, .string ⟨#[103, 101, 116]⟩, .string ⟨#[110, 101, 119]⟩, .string ⟨#[102, 114, 101, 101]⟩, .string ⟨#[105, 102]⟩, .string ⟨#[101, 108, 115, 101]⟩, .string ⟨#[119, 104, 105, 108, 101]⟩, .string ⟨#[105, 110, 118, 97, 114, 105, 97, 110, 116]⟩, .string ⟨#[97, 115, 115, 101, 114, 116]⟩, .string ⟨#[99, 97, 108, 108]⟩, .string ⟨#[116, 114, 117, 101]⟩, .string ⟨#[102, 97, 108, 115, 101]⟩, .string ⟨#[101, 109, 112]⟩, .string ⟨#[97, 99, 99]⟩, .string ⟨#[112, 116, 115]⟩] 9)).cell? ⟨w.heap.size, j, none⟩ = some (.string (keyA j))) := fun j h => by
    rw [cell_of_row _ _ _ _ _ _ (heap_alloc_new w _)]
    have e : (#[.string ⟨#[112, 114, 111, 99]⟩, .string ⟨#[114, 101, 113, 117, 105, 114, 101, 115]⟩, .string ⟨#[101, 110, 115, 117, 114, 101, 115]⟩, .string ⟨#[115, 107, 105, 112]⟩, .string ⟨#[112, 117, 116]⟩, .string ⟨#[103, 101, 116]⟩, .string ⟨#[110, 101, 119]⟩, .string ⟨#[102, 114, 101, 101]⟩, .string ⟨#[105, 102]⟩, .string ⟨#[101, 108, 115, 101]⟩, .string ⟨#[119, 104, 105, 108, 101]⟩, .string ⟨#[105, 110, 118, 97, 114, 105, 97, 110, 116]⟩, .string ⟨#[97, 115, 115, 101, 114, 116]⟩, .string ⟨#[99, 97, 108, 108]⟩, .string ⟨#[116, 114, 117, 101]⟩, .string ⟨#[102, 97, 108, 115, 101]⟩, .string ⟨#[101, 109, 112]⟩, .string ⟨#[97, 99, 99]⟩, .string ⟨#[112, 116, 115]⟩] : Array Value) = keysV.toArray := by rfl
    rw [e, List.getElem?_toArray]
    exact keysV_at h
  have HB : Hid (Below w.heap.size w (w.alloc (.cells #[.string ⟨#[112, 114, 111, 99]⟩, .string ⟨#[114, 101, 113, 117, 105, 114, 101, 115]⟩, .string ⟨#[101, 110, 115, 117, 114, 101, 115]⟩, .string ⟨#[115, 107, 105, 112]⟩, .string ⟨#[112, 117, 116]⟩, .string ⟨#[103, 101, 116]⟩, .string ⟨#[110, 101, 119]⟩, .string ⟨#[102, 114, 101, 101]⟩, .string ⟨#[105, 102]⟩, .string ⟨#[101, 108, 115, 101]⟩, .string ⟨#[119, 104, 105, 108, 101]⟩, .string ⟨#[105, 110, 118, 97, 114, 105, 97, 110, 116]⟩, .string ⟨#[97, 115, 115, 101, 114, 116]⟩, .string ⟨#[99, 97, 108, 108]⟩, .string ⟨#[116, 114, 117, 101]⟩, .string ⟨#[102, 97, 108, 115, 101]⟩, .string ⟨#[101, 109, 112]⟩, .string ⟨#[97, 99, 99]⟩, .string ⟨#[112, 116, 115]⟩] 9))) := (Below.refl _ w).alloc (Nat.le_refl _) _
  have HH := Lib.hid (fun i (h : i < 19) => keyB_hit2 (s := s) h)
  have HM := Lib.hid (keyB_miss2 (s := s))
  generalize keyB s.data.toList = r at *
  go_enter Tryd.func12, Tryd.ntmps12
  go_wp2
  generalize w.alloc (.cells #[.string ⟨#[112, 114, 111, 99]⟩, .string ⟨#[114, 101, 113, 117, 105, 114, 101, 115]⟩, .string ⟨#[101, 110, 115, 117, 114, 101, 115]⟩, .string ⟨#[115, 107, 105, 112]⟩, .string ⟨#[112, 117, 116]⟩, .string ⟨#[103, 101, 116]⟩, .string ⟨#[110, 101, 119]⟩, .string ⟨#[102, 114, 101, 101]⟩, .string ⟨#[105, 102]⟩, .string ⟨#[101, 108, 115, 101]⟩, .string ⟨#[119, 104, 105, 108, 101]⟩, .string ⟨#[105, 110, 118, 97, 114, 105, 97, 110, 116]⟩, .string ⟨#[97, 115, 115, 101, 114, 116]⟩, .string ⟨#[99, 97, 108, 108]⟩, .string ⟨#[116, 114, 117, 101]⟩, .string ⟨#[102, 97, 108, 115, 101]⟩, .string ⟨#[101, 109, 112]⟩, .string ⟨#[97, 99, 99]⟩, .string ⟨#[112, 116, 115]⟩] 9) = W1 at *
  go_loop [4] (fun i => ∃ j : Nat, j ≤ 19 ∧ i = .int .i64 j ∧ Hid (∀ q, q < j → keysL.getD q [] ≠ s.data.toList)) (fun i => 19 - (intOf i).toNat)
  case atStart => exact ⟨0, Nat.zero_le _, rfl, fun q h => absurd h (Nat.not_lt_zero _)⟩
  case round =>
    obtain ⟨j, hj, rfl, hno⟩ := hrel
    by_cases hlt : j < 19
    · have hlti : (j : Int) < 19 := by omega
      have hx := HC.out j hlt
      have he := keyA_ne (s := s) (i := j)
      by_cases hq : keysL.getD j [] = s.data.toList
      · obtain rfl := HH.out j hlt hq
        rw [decide_eq_true hq] at he
        clear hq
        go_wp2
        go_ret
        exact ⟨rfl, HB.out⟩
      · have hno2 : Hid (∀ q, q < j + 1 → keysL.getD q [] ≠ s.data.toList) := fun q h => by
          by_cases e : q = j
          · rw [e]; exact hq
          · exact hno.out q (by omega)
        rw [decide_eq_false hq] at he
        clear hq
        go_wp2
        go_round
        case rel => exact ⟨j + 1, by omega, by go_num, hno2⟩
        case measure => simp [intOf]; omega
    · obtain rfl : j = 19 := by omega
      obtain rfl := HM.out (fun i h => hno.out i h)
      go_wp2
      go_ret
      exact ⟨rfl, HB.out⟩
end Go.Proofs.YtceknhhdgmappaaDoor
