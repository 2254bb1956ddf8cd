/- A name's token, a number's. -/
import Derived.Test.YtceknhhdgmappaaDoorScnI
import Derived.Test.YtceknhhdgmappaaDoorShelf
set_option linter.unusedVariables false
set_option linter.unusedSimpArgs false
namespace Go.Proofs.YtceknhhdgmappaaDoor
set_option maxRecDepth 100000
open Go.RowKit

def tokOut (k : Int) (t : ByteArray) (c : Int) : Value := .tuple #[.agg #[.int .i64 k, .int .i64 0, .string t], .int .i64 c]
set_option maxHeartbeats 2000000 in
theorem nametok_any (s : ByteArray) (w : World) (hs : s.size ≤ 1000000) (hL : Laid w) : Calls Tryd.prog 29 #[.string s] w fun e w' => e = .returned (if 32 < s.size then tokOut 0 ⟨#[]⟩ 2 else tokOut (if keyB s.data.toList then 2 else 1) s 0) ∧ Below w.heap.size w w' := by
  have hA : Below w.heap.size w (w.alloc (.cells #[.int .i64 0, .int .i64 0, .string ⟨#[]⟩] 37)) := (Below.refl _ w).alloc (Nat.le_refl _) _
  have hB : ∀ cs, Below w.heap.size w (w.alloc (.cells cs 37)) := fun cs => (Below.refl _ w).alloc (Nat.le_refl _) _
  have HB := Lib.hid hB
  by_cases h : 32 < s.size
  · rw [if_pos h]
    have hi : (32 : Int) < (s.size : Int) := by omega
    clear hA hB hL
    go_enter Tryd.func29, Tryd.ntmps29
    go_wp2
    exact bodyPost_ret (v := tokOut 0 ⟨#[]⟩ 2) (by simp [results, Tryd.results29, go_sem, tokOut]) rfl ⟨rfl, HB.out _⟩
  · rw [if_neg h]
    have hi : ¬ (32 : Int) < (s.size : Int) := by omega
    have HK := Lib.hid (key_any s _ (hL.up hA))
    clear hA hB hL
    cases hk : keyB s.data.toList with
    | true =>
      rw [hk] at HK
      clear hk
      go_enter Tryd.func29, Tryd.ntmps29
      go_wp2_with fail
      refine HK.out.mono ?_
      rintro e w1 ⟨rfl, rfl⟩
      go_wp2
      exact bodyPost_ret (v := tokOut 2 s 0) (by simp [results, Tryd.results29, go_sem, tokOut]) rfl ⟨rfl, HB.out _⟩
    | false =>
      rw [hk] at HK
      clear hk
      go_enter Tryd.func29, Tryd.ntmps29
      go_wp2_with fail
      refine HK.out.mono ?_
      rintro e w1 ⟨rfl, rfl⟩
      go_wp2
      exact bodyPost_ret (v := tokOut 1 s 0) (by simp [results, Tryd.results29, go_sem, tokOut]) rfl ⟨rfl, HB.out _⟩
def AtoiEnd (V : Nat) (w : World) (e : Ending) (w' : World) : Prop :=
  ∃ x er, e = .returned (.tuple #[.int .i64 x, er]) ∧ Below w.heap.size w w' ∧ ((er = .nilIface ∧ x = (V : Int) ∧ V < 9223372036854775808) ∨ (∃ t v, er = .iface t v) ∧ 1000000000000000000 ≤ V)
theorem atoi_any (s : ByteArray) (w : World) (hs : s.size ≤ 1000000) (hL : Laid w) (hD : allD s.data.toList) (h0 : s.data.toList ≠ []) : Calls Tryd.prog 39 #[.string s] w (AtoiEnd (valD s.data.toList 0) w) := by
  rcases atoi_digits hD h0 with ⟨h, hv⟩ | ⟨h, hv⟩
  · obtain ⟨t, v, hr⟩ := hL.rng
    refine (Tryd.strconv_Atoi_range s (by omega) h _ w hr (.inr ⟨t, v, rfl⟩)).mono ?_
    rintro e w' ⟨N, rfl, _, _, hb⟩
    exact ⟨_, _, rfl, hb, .inr ⟨⟨_, _, rfl⟩, hv⟩⟩
  · refine (Tryd.strconv_Atoi_ok s (by omega) _ h w).mono ?_
    rintro e w' ⟨rfl, hw⟩
    refine ⟨_, _, rfl, ?_, .inl ⟨rfl, rfl, hv⟩⟩
    rcases hw with rfl | ⟨t, rfl⟩
    · exact Below.refl _ _
    · exact Lib.bytesWorld_below _ _ _
theorem numBad_is {l : List UInt8} (hD : allD l) (gl : Bool) : numBad l gl = (gl || decide (1073741824 < valD l 0) || (decide (1 < l.length) && decide (l.head? = some 48))) := by
  unfold numBad
  by_cases h : 1 < l.length ∧ l.head? = some 48
  · rw [decide_eq_true h.1, decide_eq_true h.2]; simp
  · rw [bigD_val hD h]
    have e : (decide (1 < l.length) && decide (l.head? = some 48)) = false := by
      rw [Bool.eq_false_iff]; intro e
      simp only [Bool.and_eq_true, decide_eq_true_eq] at e
      exact h e
    rw [e]; simp [Bool.or_comm]
set_option maxHeartbeats 4000000 in
theorem numtok_any (s : ByteArray) (gl : Bool) (w : World) (hs : s.size ≤ 1000000) (hL : Laid w) (hD : allD s.data.toList) (h0 : s.data.toList ≠ []) : Calls Tryd.prog 31 #[.string s, .bool gl] w fun e w' => e = .returned (if numBad s.data.toList gl then tokOut 0 ⟨#[]⟩ 5 else tokOut 3 s 0) ∧ Below w.heap.size w w' := by
  have hsz := size_l s
  have hA : Below w.heap.size w (w.alloc (.cells #[.int .i64 0, .int .i64 0, .string ⟨#[]⟩] 37)) := (Below.refl _ w).alloc (Nat.le_refl _) _
  have HAT := Lib.hid (atoi_any s _ hs (hL.up hA) hD h0)
  have hne := numBad_is hD gl
  obtain ⟨c, r, hcr⟩ : ∃ c r, s.data.toList = c :: r := by
    cases hl : s.data.toList with
    | nil => exact absurd hl h0
    | cons c r => exact ⟨c, r, rfl⟩
  have hpos : 0 < s.size := by rw [← hsz, hcr]; simp
  have hix : ∀ W, (Instr.index 9 (.string s) (.int .i64 0)).run Tryd.prog W = .ok (.int .u8 (c.toNat : Int)) W := fun W => by
    rw [run_index_string W _ s .i64 _ Tryd.underlying9, dif_pos ⟨by omega, by omega⟩]
    have e : s[(0 : Int).toNat]'(by simpa using hpos) = c := by
      rw [get_l]
      simp [hcr]
    rw [e]
  have hhd : decide (s.data.toList.head? = some 48) = ((c.toNat : Int) == 48) := by
    rw [hcr, Bool.eq_iff_iff]
    simp only [List.head?_cons, Option.some.injEq, decide_eq_true_eq, beq_iff_eq]
    constructor
    · rintro rfl; rfl
    · intro h; exact UInt8.toNat_inj.1 (by show c.toNat = 48; omega)
  have n1 := fun t v W => Tryd.neIface t v W
  have n2 := fun W => Tryd.neNil W
  rw [hhd, hsz] at hne
  have HB : Hid (∀ W (_ : Unit), Below (w.alloc (.cells #[.int .i64 0, .int .i64 0, .string ⟨#[]⟩] 37)).heap.size (w.alloc (.cells #[.int .i64 0, .int .i64 0, .string ⟨#[]⟩] 37)) W → Below w.heap.size w W) := fun W _ hb => hA.trans (hb.mono hA.size)
  have hf0 : w.heap.size < (w.alloc (.cells #[.int .i64 0, .int .i64 0, .string ⟨#[]⟩] 37)).heap.size := by simp
  have hc0 := heap_alloc_new w (.cells #[.int .i64 0, .int .i64 0, .string ⟨#[]⟩] 37)
  have HNE := Lib.hid hne
  have HCR : Hid True := trivial
  clear hA hL hD h0 hne hhd hcr hsz
  generalize valD s.data.toList 0 = V at *
  generalize numBad s.data.toList gl = nb at *
  go_enter Tryd.func31, Tryd.ntmps31
  go_wp2_with fail
  generalize hW1 : w.alloc (.cells #[.int .i64 0, .int .i64 0, .string ⟨#[]⟩] 37) = W1 at *
  refine HAT.out.mono ?_
  rintro e w1 ⟨x, er, rfl, hb1, hx⟩
  have B1 := Lib.hid (HB.out w1 () hb1)
  have q : ∀ j, w1.cell? ⟨w.heap.size, j, none⟩ = W1.cell? ⟨w.heap.size, j, none⟩ := fun j => hb1.cell (p := ⟨w.heap.size, j, none⟩) hf0
  have q0 : w1.cell? ⟨w.heap.size, 0, none⟩ = some (.int .i64 0) := by rw [q, cell_of_row _ _ _ _ _ _ hc0]; rfl
  have q1 : w1.cell? ⟨w.heap.size, 1, none⟩ = some (.int .i64 0) := by rw [q, cell_of_row _ _ _ _ _ _ hc0]; rfl
  have q2 : w1.cell? ⟨w.heap.size, 2, none⟩ = some (.string ⟨#[]⟩) := by rw [q, cell_of_row _ _ _ _ _ _ hc0]; rfl
  have qf : ∀ j, w1.frozen? ⟨w.heap.size, j, none⟩ = false := fun j => (hb1.frozen (p := ⟨w.heap.size, j, none⟩) hf0).trans (frozen_of_row _ _ _ _ _ hc0)
  have f0 := qf 0
  have f1 := qf 1
  have f2 := qf 2
  have HBS : Hid (∀ a b c, Below w.heap.size w (((w1.setCell ⟨w.heap.size, 0, none⟩ a).setCell ⟨w.heap.size, 1, none⟩ b).setCell ⟨w.heap.size, 2, none⟩ c)) := fun a b c => ((B1.out.setCell (p := ⟨w.heap.size, 0, none⟩) (Nat.le_refl _) _).setCell (p := ⟨w.heap.size, 1, none⟩) (Nat.le_refl _) _).setCell (p := ⟨w.heap.size, 2, none⟩) (Nat.le_refl _) _
  clear hb1 HAT HB q qf hc0 hf0
  clear hW1
  rcases hx with ⟨rfl, rfl, hV⟩ | ⟨⟨t, v, rfl⟩, hV⟩
  · have hVx : (V : Int) ≤ 9223372036854775807 := by omega
    have e1 : decide (1073741824 < V) = decide ((1073741824 : Int) < (V : Int)) := by rw [Bool.eq_iff_iff]; simp only [decide_eq_true_eq]; omega
    have e2 : decide (1 < s.size) = decide ((1 : Int) < (s.size : Int)) := by rw [Bool.eq_iff_iff]; simp only [decide_eq_true_eq]; omega
    have h5 : nb = (gl || decide ((1073741824 : Int) < (V : Int)) || (decide ((1 : Int) < (s.size : Int)) && ((c.toNat : Int) == 48))) := by rw [HNE.out, e1, e2]
    clear HNE e1 e2
    obtain ⟨b2, h2⟩ : ∃ b, decide ((1073741824 : Int) < (V : Int)) = b := ⟨_, rfl⟩
    obtain ⟨b3, h3⟩ : ∃ b, decide ((1 : Int) < (s.size : Int)) = b := ⟨_, rfl⟩
    obtain ⟨b4, h4⟩ : ∃ b, ((c.toNat : Int) == 48) = b := ⟨_, rfl⟩
    rw [h2, h3, h4] at h5
    cases gl <;> cases b2 <;> cases b3 <;> cases b4
    all_goals
      simp only [Bool.or_true, Bool.true_or, Bool.false_or, Bool.or_false, Bool.and_true, Bool.true_and, Bool.false_and, Bool.and_false] at h5
      subst h5
      go_wp2
      first
        | exact bodyPost_ret (v := tokOut 0 ⟨#[]⟩ 5) (by simp [results, Tryd.results31, go_sem, tokOut, q0, q1, q2, f0, f1, f2]) rfl ⟨rfl, HBS.out _ _ _⟩
        | exact bodyPost_ret (v := tokOut 3 s 0) (by simp [results, Tryd.results31, go_sem, tokOut, q0, q1, q2, f0, f1, f2]) rfl ⟨rfl, HBS.out _ _ _⟩
  · obtain rfl : nb = true := by
      rw [HNE.out, decide_eq_true (show 1073741824 < V by omega)]; simp
    clear HNE hV
    cases gl
    all_goals
      go_wp2
      exact bodyPost_ret (v := tokOut 0 ⟨#[]⟩ 5) (by simp [results, Tryd.results31, go_sem, tokOut, q0, q1, q2, f0, f1, f2]) rfl ⟨rfl, HBS.out _ _ _⟩
end Go.Proofs.YtceknhhdgmappaaDoor
