/- lin.together: neighbours of one variable become one term. The sort of a list of terms that the call itself made. -/
import Derived.Test.YtelndcmfddbgiaaDoorCt04
import Derived.Test.YtelndcmfddbgiaaDoorCt28
import Derived.RegionTactic
import Derived.ChangeAlike
import Derived.Lib.SmallJoins
import Derived.StillTailTactics
import Derived.Lib.AppendIntMem
import Derived.Shelf.SlSortCmp.NoneTotal
set_option linter.unusedVariables false
set_option linter.unusedSimpArgs false
namespace Go.Proofs.YtelndcmfddbgiaaDoor
open Go.RowKit

def togStep (r : List (Int × Int)) (m : Int × Int) : List (Int × Int) :=
  match r.getLast? with
  | some p => if p.1 = m.1 then r.dropLast ++ [(p.1, p.2 + m.2)] else r ++ [m]
  | none => r ++ [m]
theorem togStep_nil (m : Int × Int) : togStep [] m = [m] := rfl
theorem togStep_eq (r : List (Int × Int)) (v k u : Int) : togStep (r ++ [(v, k)]) (v, u) = r ++ [(v, k + u)] := by
  unfold togStep; simp
theorem togStep_ne (r : List (Int × Int)) (p : Int × Int) (m : Int × Int) (h : p.1 ≠ m.1) : togStep (r ++ [p]) m = (r ++ [p]) ++ [m] := by
  unfold togStep; simp [h]
def tog (l : List (Int × Int)) : List (Int × Int) := l.foldl togStep []
theorem tog_snoc (l : List (Int × Int)) (m : Int × Int) : tog (l ++ [m]) = togStep (tog l) m := by unfold tog; rw [List.foldl_append]; rfl

theorem snoc_cases {α : Type} (r : List α) : r = [] ∨ ∃ r' p, r = r' ++ [p] := by
  rcases List.eq_nil_or_concat r with h | ⟨a, b, h⟩
  · exact .inl h
  · exact .inr ⟨a, b, by rw [h, List.concat_eq_append]⟩

/-- All coefficients are from -M to M. -/
def Bd (M : Int) (l : List (Int × Int)) : Prop := ∀ m ∈ l, -M ≤ m.2 ∧ m.2 ≤ M
theorem Bd.step {M B : Int} {r : List (Int × Int)} {m : Int × Int} (h : Bd M r) (hM : 0 ≤ M) (hB : -B ≤ m.2 ∧ m.2 ≤ B) : Bd (M + B) (togStep r m) := by
  obtain ⟨v, u⟩ := m
  rcases snoc_cases r with rfl | ⟨r', ⟨pv, pk⟩, rfl⟩
  · rw [togStep_nil]; intro x hx; simp at hx; subst hx; simp only at hB ⊢; omega
  · have hp := h (pv, pk) (by simp)
    by_cases e : pv = v
    · subst e
      rw [togStep_eq]
      intro x hx
      rcases List.mem_append.1 hx with hx | hx
      · have := h x (by simp [hx]); simp only at hB; omega
      · simp at hx; subst hx; simp only at hB hp ⊢; omega
    · rw [togStep_ne _ _ _ e]
      intro x hx
      rcases List.mem_append.1 hx with hx | hx
      · have := h x hx; simp only at hB; omega
      · simp at hx; subst hx; simp only at hB ⊢; omega
theorem tog_bd (B : Int) (hB : 0 ≤ B) (l : List (Int × Int)) (h : Bd B l) : ∀ k, k ≤ l.length → Bd (k * B) (tog (l.take k))
  | 0, _ => by intro m hm; simp [tog] at hm
  | k + 1, hk => by
    rw [take_snoc l k (by omega), tog_snoc]
    have h1 := tog_bd B hB l h k (by omega)
    have h2 := h (l.getD k (0, 0)) (by rw [List.getD_eq_getElem?_getD, List.getElem?_eq_getElem (by omega)]; simp)
    have := h1.step (Int.mul_nonneg (by omega) hB) h2
    rwa [show ((k + 1 : Nat) : Int) * B = k * B + B by rw [Int.natCast_add, Int.add_mul]; simp]
theorem tog_len (l : List (Int × Int)) : ∀ k, k ≤ l.length → (tog (l.take k)).length ≤ k
  | 0, _ => by simp [tog]
  | k + 1, hk => by
    have h1 := tog_len l k (by omega)
    rw [take_snoc l k (by omega), tog_snoc]
    generalize tog (l.take k) = r at h1
    generalize l.getD k (0, 0) = m
    obtain ⟨v, u⟩ := m
    rcases snoc_cases r with rfl | ⟨r', ⟨pv, pk⟩, rfl⟩
    · simp [togStep_nil]
    · simp at h1
      by_cases e : pv = v
      · subst e; rw [togStep_eq]; simp; omega
      · rw [togStep_ne _ _ _ e]; simp; omega

theorem flat_last (r : List (Int × Int)) (v k : Int) : (flat (r ++ [(v, k)]))[r.length * 2]? = some (.int .i64 v) ∧ (flat (r ++ [(v, k)]))[r.length * 2 + 1]? = some (.int .i64 k) := by
  have := flat_get (r ++ [(v, k)]) r.length (by simp)
  simpa using this
theorem flat_set (r : List (Int × Int)) (v k x : Int) : (flat (r ++ [(v, k)])).set (r.length * 2 + 1) (.int .i64 x) = flat (r ++ [(v, x)]) := by
  rw [flat_append, flat_append, List.set_append_right _ _ (by rw [flat_len]; omega), flat_len, show r.length * 2 + 1 - r.length * 2 = 1 by omega]
  rfl

theorem two_at' (w : World) (o : Obj) (q : Nat) (x y : Value) (t : TypeId) : ∀ j u, [x, y][j]? = some u → (((w.alloc o).drewN q).alloc (.cells #[x, y] t)).cell? ((⟨w.heap.size + 1, 0, none⟩ : Addr).add j) = some u := by
  intro j u hj
  have h := cell_two_new' ((w.alloc o).drewN q) x y t j u hj
  have e : ((w.alloc o).drewN q).heap.size = w.heap.size + 1 := by
    show (w.alloc o).heap.size = _
    simp
  rwa [e] at h
theorem ownsRow_drewN {w : World} {base : Nat} {e : TypeId} {size : Nat} {v : Value} {n : Nat} {xs : List Value} (h : w.ownsRow base e size v n xs) (k : Nat) : (w.drewN k).ownsRow base e size v n xs := h

set_option maxHeartbeats 1600000 in
theorem together_any (a : Option Addr) (n cap : Nat) (l : List (Int × Int)) (w : World) (hn : l.length = n) (hm : n ≤ 8192) (hl : Lies w.heap.size w a l) (hbd : Bd 4398046511104 l) :
    Calls Tryd.prog 90 #[.slice a n cap] w (RowEnd w.heap.size (tog l) w) := by
  obtain ⟨i0, hi, hz0, hz1, hz2⟩ := info_parts Tryd.infoMono
  have HN := Lib.hid hn
  have HL := Lib.hid hl
  have HBD := Lib.hid hbd
  clear hn hl hbd
  go_enter Tryd.func90, Tryd.ntmps90
  go_wp2
  go_loopw [3, 9] (fun s i wr => ∃ k : Nat, k ≤ n ∧ i = .int .i64 k ∧ Hid (Row w.heap.size (tog (l.take k)) s wr) ∧ Below w.heap.size w wr) (fun _ i _ => n - (intOf i).toNat)
  case atStart => exact ⟨0, Nat.zero_le _, rfl, World.ownsRow_nil _ _ _ _, Below.refl _ _⟩
  case round =>
    obtain ⟨k, hk, rfl, hrow, hb⟩ := hrel
    by_cases hlt : k < n
    · obtain ⟨b, off, rfl, hblt, c1, c2⟩ := (HL.out.below hb) k (by rw [HN.out]; exact hlt)
      have hts := take_snoc l k (by rw [HN.out]; exact hlt)
      have hbdk := tog_bd _ (by decide) l HBD.out k (by rw [HN.out]; exact hk)
      have hlen := tog_len l k (by rw [HN.out]; exact hk)
      have hbm := HBD.out (l.getD k (0, 0)) (by rw [List.getD_eq_getElem?_getD, List.getElem?_eq_getElem (by rw [HN.out]; exact hlt)]; simp)
      have htog := tog_snoc (l.take k) (l.getD k (0, 0))
      rw [← hts] at htog
      clear hts
      generalize hg : l.getD k (0, 0) = m at c1 c2 hbm htog
      clear hg
      obtain ⟨v, u⟩ := m
      generalize tog (l.take k) = r at hrow hlen hbdk htog
      rcases snoc_cases r with rfl | ⟨r', ⟨pv, pk⟩, rfl⟩
      · have HT : Hid (tog (l.take (k + 1)) = [] ++ [(v, u)]) := htog.trans (togStep_nil _)
        clear htog
        rcases Joins.ownsRow_forms hrow.out with ⟨rfl, _⟩ | ⟨g, cap', rfl⟩
        · have HR : Hid (wr.ownsRow w.heap.size 57 2 (.slice none 0 0) 0 []) := hrow.out
          clear hrow
          go_wp2_with fail
          go_quiet (fail)
          go_wp2_with (at_builtin; refine wpList_append_own _ rfl _ _ 22 rfl w.heap.size 57 i0 _ 2 16 Tryd.underlying22 hi hz0 hz1 hz2 rfl (by decide) (.slice none 0 0) 0 (flat ([] : List (Int × Int))) rfl (World.ownsRow.alloc (ownsRow_drewN (World.ownsRow.alloc HR.out _) _) _) ⟨wr.heap.size + 1, 0, none⟩ 1 1 [.int .i64 v, .int .i64 u] rfl rfl ?c2 ?c3 ?c4 ?c5 ?c6 ?_)
          case c2 => exact fun j x hj => two_at' wr _ nq _ _ _ j x hj
          case c3 => first | exact ⟨rfl, rfl⟩ | exact flat_cells [(v, u)]
          case c4 => unfold maxLen; omega
          case c5 => omega
          case c6 => have := hb.size; simp; omega
          intro v' w1 hown' hgrow _
          have HO : Hid (Row w.heap.size (tog (l.take (k + 1))) v' w1) := by
            show Row _ _ _ _
            rw [HT.out]
            unfold Row
            rw [List.length_append, flat_append]
            exact hown'
          have HB : Below w.heap.size w w1 := ((below_drewN (hb.alloc hb.size _) _).alloc (by have := hb.size; simp; omega) _).grown hgrow (by have := hb.size; simp; omega) (fun j hj => (World.ownsRow.lt HR.out j hj).1)
          clear hown' hgrow HR
          go_wp2
          go_roundw
          case rel => exact ⟨k + 1, by omega, by go_num, HO, HB⟩
          case measure => simp [intOf]; omega
        · have HR : Hid (wr.ownsRow w.heap.size 57 2 (.slice (some ⟨g, 0, none⟩) 0 cap') 0 []) := hrow.out
          clear hrow
          simp only [List.length_nil]
          go_wp2_with fail
          go_quiet (fail)
          go_wp2_with (at_builtin; refine wpList_append_own _ rfl _ _ 22 rfl w.heap.size 57 i0 _ 2 16 Tryd.underlying22 hi hz0 hz1 hz2 rfl (by decide) (.slice (some ⟨g, 0, none⟩) 0 cap') 0 (flat ([] : List (Int × Int))) rfl (World.ownsRow.alloc (ownsRow_drewN (World.ownsRow.alloc HR.out _) _) _) ⟨wr.heap.size + 1, 0, none⟩ 1 1 [.int .i64 v, .int .i64 u] rfl rfl ?c2 ?c3 ?c4 ?c5 ?c6 ?_)
          case c2 => exact fun j x hj => two_at' wr _ nq _ _ _ j x hj
          case c3 => first | exact ⟨rfl, rfl⟩ | exact flat_cells [(v, u)]
          case c4 => unfold maxLen; omega
          case c5 => omega
          case c6 => have := hb.size; simp; omega
          intro v' w1 hown' hgrow _
          have HO : Hid (Row w.heap.size (tog (l.take (k + 1))) v' w1) := by
            show Row _ _ _ _
            rw [HT.out]
            unfold Row
            rw [List.length_append, flat_append]
            exact hown'
          have HB : Below w.heap.size w w1 := ((below_drewN (hb.alloc hb.size _) _).alloc (by have := hb.size; simp; omega) _).grown hgrow (by have := hb.size; simp; omega) (fun j hj => (World.ownsRow.lt HR.out j hj).1)
          clear hown' hgrow HR
          go_wp2
          go_roundw
          case rel => exact ⟨k + 1, by omega, by go_num, HO, HB⟩
          case measure => simp [intOf]; omega
      · obtain ⟨g, cap', rfl⟩ := Joins.ownsRow_form hrow.out (by simp)
        have hrl : (r' ++ [(pv, pk)]).length = r'.length + 1 := by simp
        obtain ⟨q, hq⟩ : ∃ q, q = r'.length := ⟨_, rfl⟩
        rw [hrl, ← hq] at hlen
        have HR : Hid (wr.ownsRow w.heap.size 57 2 (.slice (some ⟨g, 0, none⟩) (q + 1) cap') (q + 1) (flat (r' ++ [(pv, pk)]))) := by
          have := hrow.out; unfold Row at this; rw [hrl, ← hq] at this; exact this
        have hp1 := (World.ownsRow.cellAt HR.out (q * 2) (by omega)).trans (hq ▸ (flat_last r' pv pk).1)
        have hp2 := (World.ownsRow.cellAt HR.out (q * 2 + 1) (by omega)).trans (hq ▸ (flat_last r' pv pk).2)
        have hpf := World.ownsRow.frozenAt HR.out (q * 2 + 1)
        have hglt := (World.ownsRow.lt HR.out g rfl)
        have hpk := hbdk (pv, pk) (by simp)
        rw [hrl, ← hq]
        have HQ := Lib.hid hq
        clear hrow hq hrl
        have hw1 : IntKind.i64.wrap ((q : Int) + 1 - 1) = q := by rw [show (q : Int) + 1 - 1 = q by omega]; exact IntWalk.i64_in _ (by omega)
        have hw2 : IntKind.i64.wrap (q : Int) = q := IntWalk.i64_in _ (by omega)
        have hg2 : g < wr.heap.size := hglt.2
        by_cases e : pv = v
        · subst e
          have HT : Hid (tog (l.take (k + 1)) = r' ++ [(pv, pk + u)]) := htog.trans (togStep_eq _ _ _ _)
          have hbk : -(8192 * 4398046511104) ≤ pk ∧ pk ≤ 8192 * 4398046511104 := by
            simp only at hpk
            have : (k : Int) * 4398046511104 ≤ 8192 * 4398046511104 := Int.mul_le_mul_of_nonneg_right (by omega) (by omega)
            omega
          clear htog hpk hbdk
          simp only at hbm
          go_wp2_with fail
          go_quiet (fail)
          go_wp2_with fail
          go_region
          have HO : Hid (∀ W : World, W.ownsRow w.heap.size 57 2 (.slice (some ⟨g, 0, none⟩) (q + 1) cap') (q + 1) (flat (r' ++ [(pv, pk)])) → Row w.heap.size (tog (l.take (k + 1))) (.slice (some ⟨g, 0, none⟩) (q + 1) cap') (W.setCell ⟨g, q * 2 + 1, none⟩ (.int .i64 (pk + u)))) := fun W hW => by
            have h1 := (World.ownsRow.stored hW (q * 2 + 1) (.int .i64 (pk + u))).1
            rw [HQ.out, flat_set] at h1
            rw [HT.out]
            unfold Row
            rw [List.length_append, HQ.out]
            exact h1
          go_wp2
          go_roundw
          case rel => exact ⟨k + 1, by omega, by go_num, HO.out _ (ownsRow_drewN (World.ownsRow.alloc HR.out _) (nq + 1)), (below_drewN (hb.alloc hb.size _) (nq + 1)).setCell (p := ⟨g, q * 2 + 1, none⟩) hglt.1 _⟩
          case measure => simp [intOf]; omega
        · have HT : Hid (tog (l.take (k + 1)) = (r' ++ [(pv, pk)]) ++ [(v, u)]) := htog.trans (togStep_ne _ _ _ e)
          have e' : (pv == v) = false := by simpa using e
          clear htog e
          go_wp2_with fail
          go_quiet (fail)
          go_wp2_with (at_builtin; refine wpList_append_own _ rfl _ _ 22 rfl w.heap.size 57 i0 _ 2 16 Tryd.underlying22 hi hz0 hz1 hz2 rfl (by decide) (.slice (some ⟨g, 0, none⟩) (q + 1) cap') (q + 1) (flat (r' ++ [(pv, pk)])) rfl (World.ownsRow.alloc (ownsRow_drewN (World.ownsRow.alloc HR.out _) _) _) ⟨wr.heap.size + 1, 0, none⟩ 1 1 [.int .i64 v, .int .i64 u] rfl rfl ?c2 ?c3 ?c4 ?c5 ?c6 ?_)
          case c2 => exact fun j x hj => two_at' wr _ nq _ _ _ j x hj
          case c3 => first | exact ⟨rfl, rfl⟩ | exact flat_cells [(v, u)]
          case c4 => unfold maxLen; omega
          case c5 => omega
          case c6 => have := hb.size; simp; omega
          intro v' w1 hown' hgrow _
          have HO : Hid (Row w.heap.size (tog (l.take (k + 1))) v' w1) := by
            show Row _ _ _ _
            rw [HT.out]
            unfold Row
            rw [List.length_append, flat_append, List.length_append, ← HQ.out]
            exact hown'
          have HB : Below w.heap.size w w1 := ((below_drewN (hb.alloc hb.size _) _).alloc (by have := hb.size; simp; omega) _).grown hgrow (by have := hb.size; simp; omega) (fun j hj => (World.ownsRow.lt HR.out j hj).1)
          clear hown' hgrow HR
          go_wp2
          go_roundw
          case rel => exact ⟨k + 1, by omega, by go_num, HO, HB⟩
          case measure => simp [intOf]; omega
    · have HT : Hid (Row w.heap.size (tog l) u3 wr) := by
        have := hrow.out
        rwa [List.take_of_length_le (by rw [HN.out]; omega)] at this
      clear hrow
      go_wp2
      go_ret
      exact ⟨_, rfl, HT.out, hb⟩
end Go.Proofs.YtelndcmfddbgiaaDoor

namespace Go.Proofs.YtelndcmfddbgiaaDoor
open Go.Shelf Go.RowKit Go.Lib Go.Sort

def encM (x : Int × Int) : List Value := [.int .i64 x.1, .int .i64 x.2]
theorem encM_flat (l : List (Int × Int)) : (flatK encM 2 l.toArray).toList = flat l := by
  apply List.ext_getElem?
  intro t
  by_cases ht : t < l.length * 2
  · have h1 : (flatK encM 2 l.toArray)[t]! = (encM l.toArray[t / 2]!)[t % 2]! := get_flatK _ _ _ _ (by simpa using ht)
    have h2 : (flatK encM 2 l.toArray).toList[t]? = some ((flatK encM 2 l.toArray)[t]!) := by
      rw [Array.getElem?_toList, getElem!_pos _ t (by simpa using ht), Array.getElem?_eq_getElem (by simpa using ht)]
    rw [h2, h1]
    have hg := flat_get l (t / 2) (by omega)
    have hx : l.toArray[t / 2]! = l.getD (t / 2) (0, 0) := by
      rw [getElem!_pos _ (t / 2) (by simp; omega)]
      simp [List.getD_eq_getElem?_getD, show t / 2 < l.length by omega]
    rw [hx]
    rcases Nat.mod_two_eq_zero_or_one t with hm | hm
    · rw [hm]; have e : t / 2 * 2 = t := by omega
      rw [e] at hg; rw [hg.1]; rfl
    · rw [hm]; have e : t / 2 * 2 + 1 = t := by omega
      rw [e] at hg; rw [hg.2]; rfl
  · rw [List.getElem?_eq_none (by simp; omega), List.getElem?_eq_none (by rw [flat_len]; omega)]

/-- cmp.Compare of two ints. -/
theorem isNaN_any (x : Int) (w : World) : Calls Tryd.prog 97 #[.int .i64 x] w fun e w' => e = .returned (.bool false) ∧ w = w' := by
  go_enter Tryd.func97, Tryd.ntmps97
  go_wp2
  go_ret
  exact ⟨ret_bool (by simp), rfl⟩
theorem cmp_any (x y : Int) (w : World) : Calls Tryd.prog 88 #[.int .i64 x, .int .i64 y] w fun e w' => e = .returned (.int .i64 (Lib.compareInt x y)) ∧ w = w' := by
  have hx := fun W => isNaN_any x W
  have hy := fun W => isNaN_any y W
  by_cases h1 : x < y
  · have hr : Lib.compareInt x y = -1 := by unfold Lib.compareInt; simp [h1]
    rw [hr]
    clear hr
    go_enter Tryd.func88, Tryd.ntmps88
    go_wp2_with fail
    refine (hx _).mono ?_
    rintro e w' ⟨rfl, rfl⟩
    go_wp2_with fail
    refine (hy _).mono ?_
    rintro e w' ⟨rfl, rfl⟩
    go_wp2_with fail
    go_ret
    exact ⟨rfl, rfl⟩
  · by_cases h2 : y < x
    · have hr : Lib.compareInt x y = 1 := by unfold Lib.compareInt; simp [h1, h2]
      rw [hr]
      clear hr
      go_enter Tryd.func88, Tryd.ntmps88
      go_wp2_with fail
      refine (hx _).mono ?_
      rintro e w' ⟨rfl, rfl⟩
      go_wp2_with fail
      refine (hy _).mono ?_
      rintro e w' ⟨rfl, rfl⟩
      go_wp2_with fail
      go_ret
      exact ⟨rfl, rfl⟩
    · have hr : Lib.compareInt x y = 0 := by unfold Lib.compareInt; simp [h1, h2]
      rw [hr]
      clear hr
      go_enter Tryd.func88, Tryd.ntmps88
      go_wp2_with fail
      refine (hx _).mono ?_
      rintro e w' ⟨rfl, rfl⟩
      go_wp2_with fail
      refine (hy _).mono ?_
      rintro e w' ⟨rfl, rfl⟩
      go_wp2_with fail
      go_ret
      exact ⟨rfl, rfl⟩

set_option maxHeartbeats 1000000 in
theorem gatherLit_any (x y : Int × Int) (W : World) : Calls Tryd.prog 87 #[.agg #[.int .i64 x.1, .int .i64 x.2], .agg #[.int .i64 y.1, .int .i64 y.2]] W fun e w' => e = .returned (.int .i64 (Lib.compareInt x.1 y.1)) ∧ ∃ q os', w' = grow (W.drewN q) os' := by
  have hcon := fun W' => cmp_any x.1 y.1 W'
  generalize Lib.compareInt x.1 y.1 = r at hcon ⊢
  go_enter Tryd.func87, Tryd.ntmps87
  go_wp2_with (go_at_call 88; refine (hcon _).mono ?_; rintro e w' ⟨rfl, rfl⟩)
  go_ret
  exact ⟨rfl, 0, _, by rw [alloc_eq_grow, alloc_eq_grow, grow_grow]; rfl⟩

theorem cmpLaysM (blk off size : Nat) (w : World) : CmpLays Tryd.prog 87 #[] encM 2 (fun x y => Lib.compareInt x.1 y.1) blk off size w :=
  fun _ _ _ _ x y => gatherLit_any x y _

theorem ltLo (x y : Int × Int) : ltOf (fun x y : Int × Int => Lib.compareInt x.1 y.1) x y = decide (x.1 < y.1) := by
  unfold ltOf Lib.compareInt
  by_cases h1 : x.1 < y.1
  · simp [h1]
  · by_cases h2 : y.1 < x.1 <;> simp [h1, h2]
theorem swoLo : SWO (ltOf fun x y : Int × Int => Lib.compareInt x.1 y.1) where
  irrefl x := by rw [ltLo]; simp
  trans x y z h1 h2 := by rw [ltLo] at *; simp at *; omega
  ntrans x y z h1 h2 := by rw [ltLo] at *; simp at *; omega

theorem Tryd.enters39 : ∀ args w, (callFunc 87 args).run Tryd.prog w = .ok (.enter 87 args) w := fun _ _ => by kernel_rfl

/-- What a sort leaves: the list lies in its place, sorted. -/
def Sorted (B : Nat) (a : Option Addr) (l : List (Int × Int)) (w w' : World) : Prop :=
  ∃ l' : List (Int × Int), l'.Perm l ∧ (∀ i j, i < j → j < l'.length → (l'.getD i (0, 0)).1 ≤ (l'.getD j (0, 0)).1) ∧ Lies w'.heap.size w' a l' ∧ RowKit.Below B w w' ∧ w.heap.size ≤ w'.heap.size ∧ ∀ k, k < w.heap.size → (∀ b, a = some b → b.block ≠ k) → w'.heap[k]? = w.heap[k]?

set_option maxHeartbeats 1000000 in
theorem sort_any (g cap B : Nat) (l : List (Int × Int)) (w : World) (h : Row B l (.slice (some ⟨g, 0, none⟩) l.length cap) w) (hm : l.length ≤ 8192) :
    Calls Tryd.prog 86 #[.slice (some ⟨g, 0, none⟩) l.length cap, .func (.func 87) #[] #[]] w fun e w' => e = .returned (.tuple #[]) ∧ Sorted B (some ⟨g, 0, none⟩) l w w' := by
  have hlt := World.ownsRow.lt h g rfl
  have hH : HoldsK encM 2 w g 0 l.toArray := by
    intro j hj
    have hj' : j < l.length * 2 := by simpa using hj
    have hc := World.ownsRow.cellAt h j hj'
    have hf := World.ownsRow.frozenAt h j
    rw [← encM_flat, Array.getElem?_toList, Array.getElem?_eq_getElem hj] at hc
    rw [Nat.zero_add]
    exact ⟨by rw [hc, getElem!_pos _ j hj]; rfl, hf⟩
  have hcon := AnyQ.slices_SortFunc Tryd.sortMono 2 Tryd.isAgg57 Tryd.sizeOf57 encM (fun _ => rfl) (fun x v hv => by simp [encM] at hv; rcases hv with rfl | rfl <;> rfl) (fun x y => Lib.compareInt x.1 y.1) swoLo 87 #[] g 0 cap l.toArray w Tryd.enters39 (cmpLaysM g 0 l.toArray.size w) hH hlt.2 (by simp; omega)
  refine hcon.mono ?_
  rintro e w' ⟨he, d', n, os, hp, hs, hw⟩
  have hkeep : ∀ k, k < w.heap.size → g ≠ k → w'.heap[k]? = w.heap[k]? := fun k hkw hne => by
    rw [hw]
    simp [sortWorldK, putRowK, putRow, mapBlock, ahead, grow, Array.getElem?_append, hkw, Array.getElem_modify, hne]
  have hsize : w.heap.size ≤ w'.heap.size := by rw [hw]; simp [sortWorldK, putRowK, ahead]
  refine ⟨he, d'.toList, ?_, ?_, ?_, ⟨by rw [hw]; rfl, by rw [hw]; rfl, by rw [hw]; rfl, hsize, fun k hk => hkeep k (by have := hlt.1; have := hlt.2; omega) (by have := hlt.1; omega)⟩, hsize, fun k hk h => hkeep k hk (h _ rfl)⟩
  · have := hp.2.2
    rw [Array.extract_eq_self_of_le (by rw [hp.1]; exact Nat.le_refl _), Array.extract_eq_self_of_le (Nat.le_refl _)] at this
    simpa using this
  · intro i j hij hj
    have hj' : j < l.toArray.size := by rw [← hp.1]; simpa using hj
    have := hs i j (Nat.zero_le _) hij hj'
    rw [ltLo] at this
    have hi2 : i < d'.size := by rw [hp.1]; omega
    have hj2 : j < d'.size := by rw [hp.1]; exact hj'
    rw [getElem!_pos d' i hi2, getElem!_pos d' j hj2] at this
    simp only [List.getD_eq_getElem?_getD]
    rw [List.getElem?_eq_getElem (by simpa using hi2), List.getElem?_eq_getElem (by simpa using hj2)]
    simpa using this
  · have hH2 : HoldsK encM 2 w' g 0 d' := by
      rw [hw]
      refine holdsK_grow _ _ _ _ _ _ _ ?_ ?_
      · simpa [putRowK, ahead] using hlt.2
      · exact holdsK_putRowK _ _ _ _ _ _ _ (holdsK_ahead _ _ _ _ _ _ _ hH) hp.1
    have hsz : g < w'.heap.size := by rw [hw]; simp [sortWorldK, putRowK, ahead]; omega
    intro i hi
    have hi' : i < d'.size := by simpa using hi
    have h0 := (hH2.cell hi' (c := 0) (by omega)).1
    have h1 := (hH2.cell hi' (c := 1) (by omega)).1
    have hx : d'[i]! = d'.toList.getD i (0, 0) := by
      rw [getElem!_pos d' i hi', List.getD_eq_getElem?_getD, List.getElem?_eq_getElem (by simpa using hi')]; simp
    rw [hx] at h0 h1
    exact ⟨g, 0, rfl, hsz, h0, h1⟩

/-- .. of no element. -/
theorem sort_none (a : Option Addr) (cap : Nat) (fv : Value) (w : World) :
    Calls Tryd.prog 86 #[.slice a 0 cap, fv] w fun e w' => e = .returned (.tuple #[]) ∧ w' = w :=
  AnyF.slices_SortFunc_none Tryd.sortMono a cap fv w

/-- The sort of whatever list the call itself made. -/
theorem sort_row (a : Option Addr) (n cap B : Nat) (l : List (Int × Int)) (w : World) (hn : l.length = n) (h : Row B l (.slice a n cap) w) (hm : n ≤ 8192) :
    Calls Tryd.prog 86 #[.slice a n cap, .func (.func 87) #[] #[]] w fun e w' => e = .returned (.tuple #[]) ∧ Sorted B a l w w' := by
  subst hn
  by_cases h0 : l.length = 0
  · have hl := List.eq_nil_of_length_eq_zero h0
    subst hl
    exact (sort_none a cap _ w).mono fun _ _ ⟨he, hw⟩ => ⟨he, [], List.Perm.refl _, fun i j _ hj => absurd hj (Nat.not_lt_zero j), fun i hi => absurd hi (Nat.not_lt_zero i), by rw [hw]; exact Below.refl _ _, by rw [hw]; exact Nat.le_refl _, fun k _ _ => by rw [hw]⟩
  · obtain ⟨g, cap', hv⟩ := Joins.ownsRow_form h (by omega)
    injection hv with h1 h2 h3
    subst h1
    exact sort_any g cap B l w h hm
end Go.Proofs.YtelndcmfddbgiaaDoor
