/- The document's examples of layer 1 hold. -/
import Derived.Test.YtnefolkhoeocjaaLinO
import Derived.Test.YtnefolkhoeocjaaLinV
import Derived.Test.YtnefolkhoeocjaaLinU
namespace Go.Proofs.Ytnefolkhoeocjaa
open Go.RowKit

def exL : List (Int × Int) := [(0, 2), (1, 3), (0, -2)]
theorem ex_sum : IsSum exL [(1, 3)] := ⟨by simp [Up], by simp, fun v => by
  unfold exL
  rw [coef_cons, coef_nil, coef_cons, coef_cons, coef_cons, coef_nil]
  by_cases h0 : (0 : Int) = v
  · subst h0; decide
  · by_cases h1 : (1 : Int) = v
    · subst h1; decide
    · simp [h0, h1]⟩
theorem ex_arg : argOk 1 exL := ⟨by decide, by decide, by decide⟩

theorem Try.eqNil (w : World) : (binOp .eql 27 .nilIface .nilIface).run Try.prog w = .ok (.bool true) w := by simp [go_sem]

theorem lies_new (w : World) (l : List (Int × Int)) (t : TypeId) : Lies (w.alloc (.cells (flat l).toArray t)).heap.size (w.alloc (.cells (flat l).toArray t)) (some ⟨w.heap.size, 0, none⟩) l := fun i hi => by
  have hb := heap_alloc_new w (.cells (flat l).toArray t)
  have hg := flat_get l i hi
  refine ⟨w.heap.size, 0, rfl, by simp, ?_, ?_⟩
  · rw [cell_of_row _ _ _ _ _ _ hb, Nat.zero_add]; simpa using hg.1
  · rw [cell_of_row _ _ _ _ _ _ hb, Nat.zero_add]; simpa using hg.2
theorem nums_new (w : World) (zs : List Int) (t : TypeId) : Nums (w.alloc (.cells (zs.map (Value.int .i64)).toArray t)).heap.size (w.alloc (.cells (zs.map (Value.int .i64)).toArray t)) (some ⟨w.heap.size, 0, none⟩) zs := fun i hi => by
  have hb := heap_alloc_new w (.cells (zs.map (Value.int .i64)).toArray t)
  refine ⟨w.heap.size, 0, rfl, by simp, ?_⟩
  rw [cell_of_row _ _ _ _ _ _ hb, Nat.zero_add]
  simp [List.getD_eq_getElem?_getD, hi]

set_option maxHeartbeats 1000000 in
theorem up_said : UpSaid := by
  intro w
  have hmk := make_ok 1 (some ⟨w.heap.size, 0, none⟩) 3 3 exL [(1, 3)] _ rfl (lies_new w exL 50) (fun e => by cases e) ex_arg ex_sum (by decide) (by decide)
  have B0 : Hid (Below w.heap.size w (w.alloc (.cells (flat exL).toArray 50))) := (Below.refl _ w).alloc (Nat.le_refl _) _
  go_enter Try.func9, Try.ntmps9
  go_wp2_with fail
  refine hmk.mono ?_
  rintro e w1 ⟨v1, rfl, hrow1, hb1⟩
  have B1 : Hid (Below w.heap.size w w1) := B0.out.trans (hb1.mono (by simp))
  obtain ⟨a1, cap1, rfl, hl1, hnil1⟩ := hrow1.lies
  have hz1 : w.heap.size < w1.heap.size := by have := hb1.size; simp at this; omega
  have HL1 := Lib.hid hl1
  clear hmk hb1 hrow1 hl1 hnil1
  have hb2 : Below w1.heap.size w1 (w1.alloc (.cells #[.int .i64 1, .slice a1 1 cap1] 24)) := (Below.refl _ _).alloc (Nat.le_refl _) _
  have hb3 : Below w1.heap.size w1 ((w1.alloc (.cells #[.int .i64 1, .slice a1 1 cap1] 24)).alloc (.cells #[.int .i64 7, .int .i64 5] 3)) := hb2.alloc hb2.size _
  have hva := value_ok 1 a1 1 cap1 [(1, 3)] (some ⟨w1.heap.size + 1, 0, none⟩) 2 2 [7, 5] _ rfl rfl ((HL1.out.below hb3).mono hb3.size) (by have := nums_new (w1.alloc (.cells #[.int .i64 1, .slice a1 1 cap1] 24)) [7, 5] 3; simpa using this) (by decide) (by decide)
  rw [show sAt 1 [(1, 3)] [7, 5] 1 = 16 from by decide] at hva
  have B3 := Lib.hid (B1.out.trans (hb3.mono (Nat.le_of_lt hz1)))
  clear hb2 hb3
  go_wp2_with fail
  refine hva.mono ?_
  rintro e w4 ⟨rfl, hb4⟩
  obtain ⟨hc4, hf4⟩ := bcell hb4
  have hz4 : w1.heap.size < w4.heap.size := by have := hb4.size; simp at this; omega
  go_wp2_with fail
  go_ret
  exact ⟨rfl, B3.out.trans (hb4.mono (by simp; omega))⟩
end Go.Proofs.Ytnefolkhoeocjaa
