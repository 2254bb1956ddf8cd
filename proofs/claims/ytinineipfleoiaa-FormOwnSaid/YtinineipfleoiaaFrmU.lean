/- The document's examples of layer 2 hold. -/
import Derived.Test.YtinineipfleoiaaFrmJ
import Derived.Test.YtinineipfleoiaaLinU
namespace Go.Proofs.Ytinineipfleoiaa
open Go.RowKit

/-- The document's examples of layer 2 hold. -/
def UpSaid2 : Prop := ∀ w : World, Calls Try.prog 9 #[] w fun e w' => e = .returned (.bool true) ∧ Below w.heap.size w w'

theorem ex_le : fvN [3] 1 (.mk 2 (-3) [(0, 1)] []) = (true, 0) := by decide
theorem ex_or : fvN [] 1 (.mk 6 0 [] []) = (false, 0) := by decide
theorem ex_not : cc 1 (.mk 4 0 [] []) = 5 := by decide
theorem flies_leaf (B : Nat) (w : World) (k c : Int) (t : List (Int × Int)) (ta : Option Addr) (tcap : Nat) (ht : t.length ≤ 9223372036854775807) (h : Lies B w ta t) : FLies B w 1 (.mk k c t []) [.int .i64 k, .int .i64 c, .slice ta t.length tcap, .slice none 0 0] :=
  ⟨ta, tcap, none, 0, rfl, h, ht, by simp [FT.ks], fun i hi => absurd hi (by simp [FT.ks])⟩
theorem lies_one (B : Nat) (w : World) (b : Nat) (v k : Int) (hb : b < B) (h0 : w.cell? ⟨b, 0, none⟩ = some (.int .i64 v)) (h1 : w.cell? ⟨b, 1, none⟩ = some (.int .i64 k)) : Lies B w (some ⟨b, 0, none⟩) [(v, k)] := fun i hi => by
  have : i = 0 := by simpa using hi
  subst this
  exact ⟨b, 0, rfl, hb, by simpa using h0, by simpa using h1⟩

theorem nums_one (B : Nat) (w : World) (b : Nat) (z : Int) (hb : b < B) (h : w.cell? ⟨b, 0, none⟩ = some (.int .i64 z)) : Nums B w (some ⟨b, 0, none⟩) [z] := fun i hi => by
  have : i = 0 := by simpa using hi
  subst this
  exact ⟨b, 0, rfl, hb, by simpa using h⟩

set_option maxHeartbeats 1000000 in
theorem up_said2 : UpSaid2 := by
  intro w
  have b1 : Below (w.alloc (.cells #[.int .i64 0, .int .i64 1] 51)).heap.size (w.alloc (.cells #[.int .i64 0, .int .i64 1] 51)) (((w.alloc (.cells #[.int .i64 0, .int .i64 1] 51)).alloc (.cells #[.int .i64 2, .int .i64 (-3), .slice (some ⟨w.heap.size, 0, none⟩) 1 1, .slice none 0 0] 27)).alloc (.cells #[.int .i64 3] 3)) := ((Below.refl _ _).alloc (Nat.le_refl _) _).alloc (by simp) _
  have q0 := lies_one (((w.alloc (.cells #[.int .i64 0, .int .i64 1] 51)).alloc (.cells #[.int .i64 2, .int .i64 (-3), .slice (some ⟨w.heap.size, 0, none⟩) 1 1, .slice none 0 0] 27)).alloc (.cells #[.int .i64 3] 3)).heap.size (((w.alloc (.cells #[.int .i64 0, .int .i64 1] 51)).alloc (.cells #[.int .i64 2, .int .i64 (-3), .slice (some ⟨w.heap.size, 0, none⟩) 1 1, .slice none 0 0] 27)).alloc (.cells #[.int .i64 3] 3)) w.heap.size 0 1 (by simp; omega) (by rw [b1.cell (p := ⟨w.heap.size, 0, none⟩) (by simp)]; simp) (by rw [b1.cell (p := ⟨w.heap.size, 1, none⟩) (by simp)]; simp)
  have hsz : ((w.alloc (.cells #[.int .i64 0, .int .i64 1] 51)).alloc (.cells #[.int .i64 2, .int .i64 (-3), .slice (some ⟨w.heap.size, 0, none⟩) 1 1, .slice none 0 0] 27)).heap.size = w.heap.size + 1 + 1 := by simp
  have e3 : (((w.alloc (.cells #[.int .i64 0, .int .i64 1] 51)).alloc (.cells #[.int .i64 2, .int .i64 (-3), .slice (some ⟨w.heap.size, 0, none⟩) 1 1, .slice none 0 0] 27)).alloc (.cells #[.int .i64 3] 3)).cell? ⟨((w.alloc (.cells #[.int .i64 0, .int .i64 1] 51)).alloc (.cells #[.int .i64 2, .int .i64 (-3), .slice (some ⟨w.heap.size, 0, none⟩) 1 1, .slice none 0 0] 27)).heap.size, 0, none⟩ = some (.int .i64 3) := by rw [cell_of_row _ _ _ _ _ _ (heap_alloc_new ((w.alloc (.cells #[.int .i64 0, .int .i64 1] 51)).alloc (.cells #[.int .i64 2, .int .i64 (-3), .slice (some ⟨w.heap.size, 0, none⟩) 1 1, .slice none 0 0] 27)) _)]; rfl
  rw [hsz] at e3
  have q1 := nums_one (((w.alloc (.cells #[.int .i64 0, .int .i64 1] 51)).alloc (.cells #[.int .i64 2, .int .i64 (-3), .slice (some ⟨w.heap.size, 0, none⟩) 1 1, .slice none 0 0] 27)).alloc (.cells #[.int .i64 3] 3)).heap.size (((w.alloc (.cells #[.int .i64 0, .int .i64 1] 51)).alloc (.cells #[.int .i64 2, .int .i64 (-3), .slice (some ⟨w.heap.size, 0, none⟩) 1 1, .slice none 0 0] 27)).alloc (.cells #[.int .i64 3] 3)) (w.heap.size + 1 + 1) 3 (by simp) e3
  clear b1 hsz e3
  have h1 := fvalue_any 1 (.mk 2 (-3) [(0, 1)] []) [.int .i64 2, .int .i64 (-3), .slice (some ⟨w.heap.size, 0, none⟩) 1 1, .slice none 0 0] (some ⟨w.heap.size + 1 + 1, 0, none⟩) 1 1 [3]
    (((w.alloc (.cells #[.int .i64 0, .int .i64 1] 51)).alloc (.cells #[.int .i64 2, .int .i64 (-3), .slice (some ⟨w.heap.size, 0, none⟩) 1 1, .slice none 0 0] 27)).alloc (.cells #[.int .i64 3] 3))
    (flies_leaf _ _ _ _ _ _ _ (by decide) q0) rfl q1
  rw [ex_le] at h1
  simp only [codeV, if_true] at h1
  have B0 : Hid (Below w.heap.size w (((w.alloc (.cells #[.int .i64 0, .int .i64 1] 51)).alloc (.cells #[.int .i64 2, .int .i64 (-3), .slice (some ⟨w.heap.size, 0, none⟩) 1 1, .slice none 0 0] 27)).alloc (.cells #[.int .i64 3] 3))) :=
    (((Below.refl _ w).alloc (Nat.le_refl _) _).alloc (by simp) _).alloc (by simp; omega) _
  have h2 := Lib.hid (fun W => fvalue_any 1 (.mk 6 0 [] []) [.int .i64 6, .int .i64 0, .slice none 0 0, .slice none 0 0] none 0 0 [] W (flies_leaf _ _ _ _ _ _ _ (by decide) (fun i hi => absurd hi (Nat.not_lt_zero i))) rfl (fun i hi => absurd hi (Nat.not_lt_zero i)))
  rw [ex_or] at h2
  simp only [codeV, if_true] at h2
  have h3 := Lib.hid (fun W => fcheck_any 1 (.mk 4 0 [] []) [.int .i64 4, .int .i64 0, .slice none 0 0, .slice none 0 0] W (flies_leaf _ _ _ _ _ _ _ (by decide) (fun i hi => absurd hi (Nat.not_lt_zero i))))
  rw [ex_not] at h3
  simp only [codeV] at h3
  have heq := fun W => Try.eqCode 5 5 W
  go_enter Try.func9, Try.ntmps9
  go_wp2_with fail
  refine h1.mono ?_
  rintro e w1 ⟨rfl, hb1⟩
  have B1 := Lib.hid (B0.out.trans (hb1.mono (by simp; omega)))
  clear hb1
  go_wp2_with fail
  refine (h2.out _).mono ?_
  rintro e w2 ⟨rfl, hb2⟩
  have B2 := Lib.hid (B1.out.trans (hb2.mono B1.out.size))
  clear hb2
  go_wp2_with fail
  refine (h3.out _).mono ?_
  rintro e w3 ⟨rfl, hb3⟩
  have B3 := Lib.hid (B2.out.trans (hb3.mono B2.out.size))
  clear hb3
  go_wp2_with fail
  go_ret
  exact ⟨rfl, B3.out⟩
end Go.Proofs.Ytinineipfleoiaa
