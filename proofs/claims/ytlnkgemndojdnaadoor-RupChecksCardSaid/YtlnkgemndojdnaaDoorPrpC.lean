/- The follower's place, value, watch, make. -/
import Derived.Test.YtlnkgemndojdnaaDoorPrpB
import Derived.Test.YtlnkgemndojdnaaDoorProg
import Derived.WalkKit
import Derived.RegionTactic
import Derived.BigQuiet
import Derived.Deep.RegionWith
set_option linter.unusedVariables false
set_option linter.unusedSimpArgs false
namespace Go.Proofs.YtlnkgemndojdnaaDoor
set_option maxRecDepth 100000
open Go.RowKit

theorem place_any (l : Int) (w : World) (hl : -8192 ≤ l ∧ l ≤ 8192) :
    Calls Tryd.prog 47 #[.int .i64 l] w fun e w' => e = .returned (.int .i64 (place l)) ∧ w = w' := by
  by_cases h : 0 < l
  · have e : ((place l : Nat) : Int) = 2 * l := by unfold place; rw [if_pos h]; omega
    rw [e]
    go_enter Tryd.func47, Tryd.ntmps47
    go_wp2_with fail
    go_ret
    exact ⟨rfl, rfl⟩
  · have e : ((place l : Nat) : Int) = -2 * l + 1 := by unfold place; rw [if_neg h]; omega
    rw [e]
    go_enter Tryd.func47, Tryd.ntmps47
    go_wp2_with fail
    go_ret
    exact ⟨rfl, rfl⟩

section
variable {B n m : Nat} {p : FolS} {w : World} {A Wd H T S : Nat → Int} {Q : List Int}
theorem value_any (h : Fol B n m p w A Wd H T S Q) (htri : ∀ i, A i = -1 ∨ A i = 0 ∨ A i = 1) {l : Int} (hl : inR n l) (hn : n ≤ 8192) :
    Calls Tryd.prog 49 #[.pointer (some ⟨p.F, 0, none⟩), .int .i64 l] w fun e w' => e = .returned (.int .i64 (va A l)) ∧ w = w' := by
  have c1 := h.c1
  obtain ⟨h1, h2, h3⟩ := hl
  by_cases hp : 0 < l
  · obtain ⟨k, rfl⟩ := Int.eq_ofNat_of_zero_le (show 0 ≤ l by omega)
    have a1 := h.aI k (by omega)
    have e : va A (k : Int) = A k := by unfold va; rw [if_pos hp, Int.toNat_natCast]
    rw [e]
    have hk : (k : Int) < (n + 1 : Nat) := by omega
    clear h htri
    generalize A k = x at a1
    go_enter Tryd.func49, Tryd.ntmps49
    go_wp2_with fail
    go_ret
    exact ⟨rfl, rfl⟩
  · obtain ⟨k, hk⟩ := Int.eq_ofNat_of_zero_le (show 0 ≤ -l by omega)
    have hlk : l = -(k : Int) := by omega
    subst hlk
    have a1 := h.aI k (by omega)
    have hA := htri k
    have e : va A (-(k : Int)) = -A k := by unfold va; rw [if_neg hp, Int.neg_neg, Int.toNat_natCast]
    rw [e]
    have hk2 : (k : Int) < (n + 1 : Nat) := by omega
    have hw : IntKind.i64.wrap (-(-(k : Int))) = (k : Int) := by rw [Int.neg_neg]; exact IntWalk.i64_in _ (by omega)
    clear h htri hk
    generalize A k = x at a1 hA
    have hw2 : IntKind.i64.wrap (-x) = -x := IntWalk.i64_in _ (by omega)
    go_enter Tryd.func49, Tryd.ntmps49
    go_wp2_with fail
    go_ret
    exact ⟨rfl, rfl⟩
theorem watch_any (h : Fol B n m p w A Wd H T S Q) {l : Int} (hl : inR n l) (hn : n ≤ 8192) {x : Nat} (hx : x < 2 * m) (hm : m ≤ 16384) :
    Calls Tryd.prog 44 #[.pointer (some ⟨p.F, 0, none⟩), .int .i64 x, .int .i64 l] w fun e w' => e = .returned (.tuple #[]) ∧ Fol B n m p w' A (upd Wd x l) (upd H (place l) x) (upd T x (H (place l))) S Q ∧ Below B w w' := by
  have hp := place_lt hl
  have HP := Lib.hid (place_any l w (by have := hl.2.1; have := hl.2.2; omega))
  have F1 := Lib.hid (h.setW hx l)
  have F2 := Lib.hid ((F1.out.setT hx (H (place l))))
  have F3 := Lib.hid ((F2.out.setH hp x))
  have B3 : Hid (Below B w (((w.setCell ⟨p.W, x, none⟩ (.int .i64 l)).setCell ⟨p.T, x, none⟩ (.int .i64 (H (place l)))).setCell ⟨p.H, place l, none⟩ (.int .i64 x))) :=
    (((Below.refl B w).setCell (p := ⟨p.W, x, none⟩) (h.lo _ p.inW).1 _).setCell (p := ⟨p.T, x, none⟩) (h.lo _ p.inT).1 _).setCell (p := ⟨p.H, place l, none⟩) (h.lo _ p.inH).1 _
  have c2 := h.c2
  have w0 := h.aW x hx
  have f0 := h.fr _ p.inW x
  have c4 := F1.out.c4
  have c3 := F1.out.c3
  have a3 := F1.out.aH _ hp
  have a4 := F1.out.aT x hx
  have f4 := F1.out.fr _ p.inT x
  have d3 := F2.out.c3
  have e3 := F2.out.aH _ hp
  have g3 := F2.out.fr _ p.inH (place l)
  generalize H (place l) = hv at a3 F2 F3 B3 d3 e3 g3
  generalize place l = pl at hp HP F3 B3 a3 e3 g3
  clear h
  go_enter Tryd.func44, Tryd.ntmps44
  go_wp2_with fail
  refine HP.out.mono ?_
  rintro e w' ⟨rfl, rfl⟩
  go_wp2_with fail
  have hpl : (pl : Int) < (2 * n + 2 : Nat) := by omega
  have hxl : (x : Int) < (2 * m : Nat) := by omega
  generalize w.setCell ⟨p.W, x, none⟩ (.int .i64 l) = w1 at F1 F2 F3 B3 c4 c3 a3 a4 f4 d3 e3 g3 ⊢
  clear c2 w0 f0
  go_region
  all_goals
    go_wp2_with fail
    go_end0
    exact ⟨rfl, F3.out.below (Below.refl _ _).drew, B3.out.drew⟩
theorem Tryd.infoInt : (Tryd.prog.info? 3).map (fun i => (i.zero, i.size, i.bytes)) = some (some (.int .i64 0), 1, 8) := by kernel_rfl
/-- What make comes to. -/
def MakeEnd (B n m : Nat) (p : FolS) (A Wd H T S : Nat → Int) (Q : List Int) (l : Int) (w : World) (e : Ending) (w' : World) : Prop :=
  e = .returned (.bool (decide (0 ≤ va A l))) ∧ Below B w w' ∧ (va A l ≠ 0 → Fol B n m p w' A Wd H T S Q) ∧ (va A l = 0 → Fol B n m p w' (setL A l) Wd H T S (Q ++ [l]))
theorem make_any (h : Fol B n m p w A Wd H T S Q) (htri : ∀ i, A i = -1 ∨ A i = 0 ∨ A i = 1) {l : Int} (hl : inR n l) (hn : n ≤ 8192) (hq : Q.length ≤ 1000000) (hB : B ≤ w.heap.size) :
    Calls Tryd.prog 46 #[.pointer (some ⟨p.F, 0, none⟩), .int .i64 l] w (MakeEnd B n m p A Wd H T S Q l w) := by
  have HV := Lib.hid (value_any h htri hl hn)
  have ht := va_tri htri l
  obtain ⟨i0, hi, hz0, hz1, hz2⟩ := info_parts Tryd.infoInt
  obtain ⟨h1, h2, h3⟩ := hl
  by_cases h0 : va A l = 0
  · have key : ∀ (k : Nat) (v : Int), k < n + 1 → setL A l = upd A k v → Hid (Fol B n m p (w.setCell ⟨p.I, k, none⟩ (.int .i64 v)) (setL A l) Wd H T S Q) ∧ Hid (Below B w (w.setCell ⟨p.I, k, none⟩ (.int .i64 v))) := fun k v hk e => by
      refine ⟨?_, ((Below.refl B w).setCell (p := ⟨p.I, k, none⟩) (h.lo _ p.inI).1 _)⟩
      show Fol _ _ _ _ _ _ _ _ _ _ _
      rw [e]; exact h.setI hk v
    have c1 := h.c1
    have HE : Hid (∀ e w', e = .returned (.bool true) → Below B w w' → Fol B n m p w' (setL A l) Wd H T S (Q ++ [l]) → MakeEnd B n m p A Wd H T S Q l w e w') := fun e w' he hb hf =>
      ⟨by rw [he, h0]; rfl, hb, fun hne => absurd h0 hne, fun _ => hf⟩
    have rest : ∀ w1 : World, Hid (Fol B n m p w1 (setL A l) Wd H T S Q) → Hid (Below B w w1) → ∃ q6, w1.cell? ⟨p.F, 6, none⟩ = some q6 ∧ Hid (QRow B p.In (w1.alloc (.cells #[.int .i64 l] 3)) q6 Q) ∧ Hid (Fol B n m p (w1.alloc (.cells #[.int .i64 l] 3)) (setL A l) Wd H T S Q) ∧ Hid (Below B w (w1.alloc (.cells #[.int .i64 l] 3))) ∧
        (w1.alloc (.cells #[.int .i64 l] 3)).cell? ⟨p.F, 6, none⟩ = some q6 ∧ (∀ o, (w1.alloc (.cells #[.int .i64 l] 3)).frozen? ⟨p.F, o, none⟩ = false) := fun w1 f1 b1 => by
      have hba : Below w1.heap.size w1 (w1.alloc (.cells #[.int .i64 l] 3)) := (Below.refl _ w1).alloc (Nat.le_refl _) _
      have f2 := f1.out.below hba
      obtain ⟨v, g1, g2⟩ := f1.out.c6
      have g3 : (w1.alloc (.cells #[.int .i64 l] 3)).cell? ⟨p.F, 6, none⟩ = some v := (hba.cell (p := ⟨p.F, 6, none⟩) (f1.out.lo _ p.inF).2).trans g1
      obtain ⟨v', g4, g5⟩ := f2.c6
      obtain rfl := Option.some.inj (g3.symm.trans g4)
      exact ⟨v, g1, g5, f2, b1.out.trans (hba.mono (Nat.le_trans hB b1.out.size)), g3, fun o => f2.fr _ p.inF o⟩
    by_cases hp : 0 < l
    · obtain ⟨k, rfl⟩ := Int.eq_ofNat_of_zero_le (show 0 ≤ l by omega)
      obtain ⟨F1, B1⟩ := key k 1 (by omega) (by unfold setL; rw [if_pos hp, Int.toNat_natCast])
      have a1 := h.aI k (by omega)
      have f1 := h.fr _ p.inI k
      have hk : (k : Int) < (n + 1 : Nat) := by omega
      have hF1 := F1.out.c6
      obtain ⟨q6, g1, HQ, F2, B2, g2, g3⟩ := rest _ F1 B1
      have HX : Hid (∀ x, p.In x → x < ((w.setCell ⟨p.I, k, none⟩ (.int .i64 1)).alloc (.cells #[.int .i64 (k : Int)] 3)).heap.size) := fun x hx => (F2.out.lo x hx).2
      have HBZ : Hid (B ≤ ((w.setCell ⟨p.I, k, none⟩ (.int .i64 1)).alloc (.cells #[.int .i64 (k : Int)] 3)).heap.size) := Nat.le_trans hB B2.out.size
      have HNW : Hid (((w.setCell ⟨p.I, k, none⟩ (.int .i64 1)).alloc (.cells #[.int .i64 (k : Int)] 3)).cell? ⟨w.heap.size, 0, none⟩ = some (.int .i64 (k : Int))) := by
        have := heap_alloc_new (w.setCell ⟨p.I, k, none⟩ (.int .i64 1)) (.cells #[.int .i64 (k : Int)] 3)
        rw [World.size_setCell] at this
        exact (cell_of_row _ _ _ _ _ _ this).trans rfl
      clear h key rest hF1 ht htri
      go_enter Tryd.func46, Tryd.ntmps46
      go_wp2_with fail
      refine HV.out.mono ?_
      rintro e w' ⟨rfl, rfl⟩
      rw [h0]
      go_wp2_with (at_builtin; refine wpList_append_q rfl _ _ 34 rfl 3 i0 (.int .i64 0) Tryd.underlying34 hi hz0 hz1 hz2 rfl (B := B) (X := p.In) (v := q6) rfl HQ.out HBZ.out HX.out hq ⟨w.heap.size, 0, none⟩ 1 (k : Int) rfl HNW.out ?_)
      intro v' w3 hq3 hb3 hk3
      obtain ⟨a6, cap6, ev6, _⟩ := hq3.ex
      rw [List.length_append, List.length_singleton] at ev6
      subst ev6
      have g4 : w3.cell? ⟨p.F, 6, none⟩ = some q6 := (World.cell?_of_block (a := ⟨p.F, 6, none⟩) (hk3 _ p.inF)).trans g2
      have g5 : w3.frozen? ⟨p.F, 6, none⟩ = false := (World.frozen?_of_block (a := ⟨p.F, 6, none⟩) (hk3 _ p.inF)).trans (g3 6)
      have F3 := Lib.hid (F2.out.setQ hk3 hb3.size hq3)
      have B3 := Lib.hid (B2.out.trans (hb3.setCell (p := ⟨p.F, 6, none⟩) (F2.out.lo _ p.inF).1 (.slice a6 (Q.length + 1) cap6)))
      clear hq3 hb3 hk3
      go_wp2_with fail
      go_ret
      exact HE.out _ _ rfl B3.out F3.out
    · obtain ⟨k, hlk⟩ := Int.eq_ofNat_of_zero_le (show 0 ≤ -l by omega)
      have hlk : l = -(k : Int) := by omega
      subst hlk
      obtain ⟨F1, B1⟩ := key k (-1) (by omega) (by unfold setL; rw [if_neg hp, Int.neg_neg, Int.toNat_natCast])
      have a1 := h.aI k (by omega)
      have f1 := h.fr _ p.inI k
      have hk : (k : Int) < (n + 1 : Nat) := by omega
      have hF1 := F1.out.c6
      obtain ⟨q6, g1, HQ, F2, B2, g2, g3⟩ := rest _ F1 B1
      have HX : Hid (∀ x, p.In x → x < ((w.setCell ⟨p.I, k, none⟩ (.int .i64 (-1))).alloc (.cells #[.int .i64 (-(k : Int))] 3)).heap.size) := fun x hx => (F2.out.lo x hx).2
      have HBZ : Hid (B ≤ ((w.setCell ⟨p.I, k, none⟩ (.int .i64 (-1))).alloc (.cells #[.int .i64 (-(k : Int))] 3)).heap.size) := Nat.le_trans hB B2.out.size
      have HNW : Hid (((w.setCell ⟨p.I, k, none⟩ (.int .i64 (-1))).alloc (.cells #[.int .i64 (-(k : Int))] 3)).cell? ⟨w.heap.size, 0, none⟩ = some (.int .i64 (-(k : Int)))) := by
        have := heap_alloc_new (w.setCell ⟨p.I, k, none⟩ (.int .i64 (-1))) (.cells #[.int .i64 (-(k : Int))] 3)
        rw [World.size_setCell] at this
        exact (cell_of_row _ _ _ _ _ _ this).trans rfl
      have hw : IntKind.i64.wrap (-(-(k : Int))) = (k : Int) := by rw [Int.neg_neg]; exact IntWalk.i64_in _ (by omega)
      clear h key rest hF1 ht htri
      go_enter Tryd.func46, Tryd.ntmps46
      go_wp2_with fail
      refine HV.out.mono ?_
      rintro e w' ⟨rfl, rfl⟩
      rw [h0]
      go_wp2_with (at_builtin; refine wpList_append_q rfl _ _ 34 rfl 3 i0 (.int .i64 0) Tryd.underlying34 hi hz0 hz1 hz2 rfl (B := B) (X := p.In) (v := q6) rfl HQ.out HBZ.out HX.out hq ⟨w.heap.size, 0, none⟩ 1 (-(k : Int)) rfl HNW.out ?_)
      intro v' w3 hq3 hb3 hk3
      obtain ⟨a6, cap6, ev6, _⟩ := hq3.ex
      rw [List.length_append, List.length_singleton] at ev6
      subst ev6
      have g4 : w3.cell? ⟨p.F, 6, none⟩ = some q6 := (World.cell?_of_block (a := ⟨p.F, 6, none⟩) (hk3 _ p.inF)).trans g2
      have g5 : w3.frozen? ⟨p.F, 6, none⟩ = false := (World.frozen?_of_block (a := ⟨p.F, 6, none⟩) (hk3 _ p.inF)).trans (g3 6)
      have F3 := Lib.hid (F2.out.setQ hk3 hb3.size hq3)
      have B3 := Lib.hid (B2.out.trans (hb3.setCell (p := ⟨p.F, 6, none⟩) (F2.out.lo _ p.inF).1 (.slice a6 (Q.length + 1) cap6)))
      clear hq3 hb3 hk3
      go_wp2_with fail
      go_ret
      exact HE.out _ _ rfl B3.out F3.out
  · have HE : Hid (∀ e, e = .returned (.bool (decide (0 < va A l))) → MakeEnd B n m p A Wd H T S Q l w e w) := fun e he =>
      ⟨by rw [he]; congr 2; simp only [decide_eq_decide]; omega, Below.refl _ _, fun _ => h, fun e => absurd e h0⟩
    generalize va A l = x at HV HE h0 ht
    clear h
    have hx : x = 1 ∨ x = -1 := by omega
    clear ht
    rcases hx with rfl | rfl
    all_goals
      go_enter Tryd.func46, Tryd.ntmps46
      go_wp2_with fail
      refine HV.out.mono ?_
      rintro e w' ⟨rfl, rfl⟩
      go_wp2_with fail
      go_ret
      exact HE.out _ rfl
end
end Go.Proofs.YtlnkgemndojdnaaDoor
