/- lin.together: neighbours of one variable become one term. -/
import Derived.Test.YtknagcednppokaaLinG
import Derived.RegionTactic
import Derived.ChangeAlike
import Derived.Lib.SmallJoins
import Derived.StillTailTactics
namespace Go.Proofs.Ytknagcednppokaa
open Go.RowKit

def togStep (r : List (Int × Int)) (m : Int × Int) : List (Int × Int) :=
  match r.getLast? with
  | some p => if p.1 = m.1 then r.dropLast ++ [(p.1, p.2 + m.2)] else r ++ [m]
  | none => r ++ [m]
theorem togStep_nil (m : Int × Int) : togStep [] m = [m] := rfl
theorem togStep_eq (r : List (Int × Int)) (v k u : Int) : togStep (r ++ [(v, k)]) (v, u) = r ++ [(v, k + u)] := by
  unfold togStep; simp
theorem togStep_ne (r : List (Int × Int)) (p : Int × Int) (m : Int × Int) (h : p.1 ≠ m.1) : togStep (r ++ [p]) m = (r ++ [p]) ++ [m] := by
  unfold togStep; simp [h]
def tog (l : List (Int × Int)) : List (Int × Int) := l.foldl togStep []
theorem tog_snoc (l : List (Int × Int)) (m : Int × Int) : tog (l ++ [m]) = togStep (tog l) m := by unfold tog; rw [List.foldl_append]; rfl

theorem snoc_cases {α : Type} (r : List α) : r = [] ∨ ∃ r' p, r = r' ++ [p] := by
  rcases List.eq_nil_or_concat r with h | ⟨a, b, h⟩
  · exact .inl h
  · exact .inr ⟨a, b, by rw [h, List.concat_eq_append]⟩

/-- All coefficients are from -M to M. -/
def Bd (M : Int) (l : List (Int × Int)) : Prop := ∀ m ∈ l, -M ≤ m.2 ∧ m.2 ≤ M
theorem Bd.step {M B : Int} {r : List (Int × Int)} {m : Int × Int} (h : Bd M r) (hM : 0 ≤ M) (hB : -B ≤ m.2 ∧ m.2 ≤ B) : Bd (M + B) (togStep r m) := by
  obtain ⟨v, u⟩ := m
  rcases snoc_cases r with rfl | ⟨r', ⟨pv, pk⟩, rfl⟩
  · rw [togStep_nil]; intro x hx; simp at hx; subst hx; simp only at hB ⊢; omega
  · have hp := h (pv, pk) (by simp)
    by_cases e : pv = v
    · subst e
      rw [togStep_eq]
      intro x hx
      rcases List.mem_append.1 hx with hx | hx
      · have := h x (by simp [hx]); simp only at hB; omega
      · simp at hx; subst hx; simp only at hB hp ⊢; omega
    · rw [togStep_ne _ _ _ e]
      intro x hx
      rcases List.mem_append.1 hx with hx | hx
      · have := h x hx; simp only at hB; omega
      · simp at hx; subst hx; simp only at hB ⊢; omega
theorem tog_bd (B : Int) (hB : 0 ≤ B) (l : List (Int × Int)) (h : Bd B l) : ∀ k, k ≤ l.length → Bd (k * B) (tog (l.take k))
  | 0, _ => by intro m hm; simp [tog] at hm
  | k + 1, hk => by
    rw [take_snoc l k (by omega), tog_snoc]
    have h1 := tog_bd B hB l h k (by omega)
    have h2 := h (l.getD k (0, 0)) (by rw [List.getD_eq_getElem?_getD, List.getElem?_eq_getElem (by omega)]; simp)
    have := h1.step (Int.mul_nonneg (by omega) hB) h2
    rwa [show ((k + 1 : Nat) : Int) * B = k * B + B by rw [Int.natCast_add, Int.add_mul]; simp]
theorem tog_len (l : List (Int × Int)) : ∀ k, k ≤ l.length → (tog (l.take k)).length ≤ k
  | 0, _ => by simp [tog]
  | k + 1, hk => by
    have h1 := tog_len l k (by omega)
    rw [take_snoc l k (by omega), tog_snoc]
    generalize tog (l.take k) = r at h1
    generalize l.getD k (0, 0) = m
    obtain ⟨v, u⟩ := m
    rcases snoc_cases r with rfl | ⟨r', ⟨pv, pk⟩, rfl⟩
    · simp [togStep_nil]
    · simp at h1
      by_cases e : pv = v
      · subst e; rw [togStep_eq]; simp; omega
      · rw [togStep_ne _ _ _ e]; simp; omega

theorem flat_last (r : List (Int × Int)) (v k : Int) : (flat (r ++ [(v, k)]))[r.length * 2]? = some (.int .i64 v) ∧ (flat (r ++ [(v, k)]))[r.length * 2 + 1]? = some (.int .i64 k) := by
  have := flat_get (r ++ [(v, k)]) r.length (by simp)
  simpa using this
theorem flat_set (r : List (Int × Int)) (v k x : Int) : (flat (r ++ [(v, k)])).set (r.length * 2 + 1) (.int .i64 x) = flat (r ++ [(v, x)]) := by
  rw [flat_append, flat_append, List.set_append_right _ _ (by rw [flat_len]; omega), flat_len, show r.length * 2 + 1 - r.length * 2 = 1 by omega]
  rfl

theorem two_at' (w : World) (o : Obj) (q : Nat) (x y : Value) (t : TypeId) : ∀ j u, [x, y][j]? = some u → (((w.alloc o).drewN q).alloc (.cells #[x, y] t)).cell? ((⟨w.heap.size + 1, 0, none⟩ : Addr).add j) = some u := by
  intro j u hj
  have h := cell_two_new' ((w.alloc o).drewN q) x y t j u hj
  have e : ((w.alloc o).drewN q).heap.size = w.heap.size + 1 := by
    show (w.alloc o).heap.size = _
    simp
  rwa [e] at h
theorem ownsRow_drewN {w : World} {base : Nat} {e : TypeId} {size : Nat} {v : Value} {n : Nat} {xs : List Value} (h : w.ownsRow base e size v n xs) (k : Nat) : (w.drewN k).ownsRow base e size v n xs := h

set_option maxHeartbeats 1600000 in
theorem together_any (a : Option Addr) (n cap : Nat) (l : List (Int × Int)) (w : World) (hn : l.length = n) (hm : n ≤ 8192) (hl : Lies w.heap.size w a l) (hbd : Bd 4398046511104 l) :
    Calls Try.prog 72 #[.slice a n cap] w (RowEnd w.heap.size (tog l) w) := by
  obtain ⟨i0, hi, hz0, hz1, hz2⟩ := info_parts Try.infoMono
  have HN := Lib.hid hn
  have HL := Lib.hid hl
  have HBD := Lib.hid hbd
  clear hn hl hbd
  go_enter Try.func72, Try.ntmps72
  go_wp2
  go_loopw [3, 9] (fun s i wr => ∃ k : Nat, k ≤ n ∧ i = .int .i64 k ∧ Hid (Row w.heap.size (tog (l.take k)) s wr) ∧ Below w.heap.size w wr) (fun _ i _ => n - (intOf i).toNat)
  case atStart => exact ⟨0, Nat.zero_le _, rfl, World.ownsRow_nil _ _ _ _, Below.refl _ _⟩
  case round =>
    obtain ⟨k, hk, rfl, hrow, hb⟩ := hrel
    by_cases hlt : k < n
    · obtain ⟨b, off, rfl, hblt, c1, c2⟩ := (HL.out.below hb) k (by rw [HN.out]; exact hlt)
      have hts := take_snoc l k (by rw [HN.out]; exact hlt)
      have hbdk := tog_bd _ (by decide) l HBD.out k (by rw [HN.out]; exact hk)
      have hlen := tog_len l k (by rw [HN.out]; exact hk)
      have hbm := HBD.out (l.getD k (0, 0)) (by rw [List.getD_eq_getElem?_getD, List.getElem?_eq_getElem (by rw [HN.out]; exact hlt)]; simp)
      have htog := tog_snoc (l.take k) (l.getD k (0, 0))
      rw [← hts] at htog
      clear hts
      generalize hg : l.getD k (0, 0) = m at c1 c2 hbm htog
      clear hg
      obtain ⟨v, u⟩ := m
      generalize tog (l.take k) = r at hrow hlen hbdk htog
      rcases snoc_cases r with rfl | ⟨r', ⟨pv, pk⟩, rfl⟩
      · have HT : Hid (tog (l.take (k + 1)) = [] ++ [(v, u)]) := htog.trans (togStep_nil _)
        clear htog
        rcases Joins.ownsRow_forms hrow.out with ⟨rfl, _⟩ | ⟨g, cap', rfl⟩
        · have HR : Hid (wr.ownsRow w.heap.size 51 2 (.slice none 0 0) 0 []) := hrow.out
          clear hrow
          go_wp2_with fail
          go_quiet (fail)
          go_wp2_with (at_builtin; refine wpList_append_own _ rfl _ _ 22 rfl w.heap.size 51 i0 _ 2 16 Try.underlying22 hi hz0 hz1 hz2 rfl (by decide) (.slice none 0 0) 0 (flat ([] : List (Int × Int))) rfl (World.ownsRow.alloc (ownsRow_drewN (World.ownsRow.alloc HR.out _) _) _) ⟨wr.heap.size + 1, 0, none⟩ 1 1 [.int .i64 v, .int .i64 u] rfl rfl ?c2 ?c3 ?c4 ?c5 ?c6 ?_)
          case c2 => exact fun j x hj => two_at' wr _ nq _ _ _ j x hj
          case c3 => first | exact ⟨rfl, rfl⟩ | exact flat_cells [(v, u)]
          case c4 => unfold maxLen; omega
          case c5 => omega
          case c6 => have := hb.size; simp; omega
          intro v' w1 hown' hgrow _
          have HO : Hid (Row w.heap.size (tog (l.take (k + 1))) v' w1) := by
            show Row _ _ _ _
            rw [HT.out]
            unfold Row
            rw [List.length_append, flat_append]
            exact hown'
          have HB : Below w.heap.size w w1 := ((below_drewN (hb.alloc hb.size _) _).alloc (by have := hb.size; simp; omega) _).grown hgrow (by have := hb.size; simp; omega) (fun j hj => (World.ownsRow.lt HR.out j hj).1)
          clear hown' hgrow HR
          go_wp2
          go_roundw
          case rel => exact ⟨k + 1, by omega, by go_num, HO, HB⟩
          case measure => simp [intOf]; omega
        · have HR : Hid (wr.ownsRow w.heap.size 51 2 (.slice (some ⟨g, 0, none⟩) 0 cap') 0 []) := hrow.out
          clear hrow
          simp only [List.length_nil]
          go_wp2_with fail
          go_quiet (fail)
          go_wp2_with (at_builtin; refine wpList_append_own _ rfl _ _ 22 rfl w.heap.size 51 i0 _ 2 16 Try.underlying22 hi hz0 hz1 hz2 rfl (by decide) (.slice (some ⟨g, 0, none⟩) 0 cap') 0 (flat ([] : List (Int × Int))) rfl (World.ownsRow.alloc (ownsRow_drewN (World.ownsRow.alloc HR.out _) _) _) ⟨wr.heap.size + 1, 0, none⟩ 1 1 [.int .i64 v, .int .i64 u] rfl rfl ?c2 ?c3 ?c4 ?c5 ?c6 ?_)
          case c2 => exact fun j x hj => two_at' wr _ nq _ _ _ j x hj
          case c3 => first | exact ⟨rfl, rfl⟩ | exact flat_cells [(v, u)]
          case c4 => unfold maxLen; omega
          case c5 => omega
          case c6 => have := hb.size; simp; omega
          intro v' w1 hown' hgrow _
          have HO : Hid (Row w.heap.size (tog (l.take (k + 1))) v' w1) := by
            show Row _ _ _ _
            rw [HT.out]
            unfold Row
            rw [List.length_append, flat_append]
            exact hown'
          have HB : Below w.heap.size w w1 := ((below_drewN (hb.alloc hb.size _) _).alloc (by have := hb.size; simp; omega) _).grown hgrow (by have := hb.size; simp; omega) (fun j hj => (World.ownsRow.lt HR.out j hj).1)
          clear hown' hgrow HR
          go_wp2
          go_roundw
          case rel => exact ⟨k + 1, by omega, by go_num, HO, HB⟩
          case measure => simp [intOf]; omega
      · obtain ⟨g, cap', rfl⟩ := Joins.ownsRow_form hrow.out (by simp)
        have hrl : (r' ++ [(pv, pk)]).length = r'.length + 1 := by simp
        obtain ⟨q, hq⟩ : ∃ q, q = r'.length := ⟨_, rfl⟩
        rw [hrl, ← hq] at hlen
        have HR : Hid (wr.ownsRow w.heap.size 51 2 (.slice (some ⟨g, 0, none⟩) (q + 1) cap') (q + 1) (flat (r' ++ [(pv, pk)]))) := by
          have := hrow.out; unfold Row at this; rw [hrl, ← hq] at this; exact this
        have hp1 := (World.ownsRow.cellAt HR.out (q * 2) (by omega)).trans (hq ▸ (flat_last r' pv pk).1)
        have hp2 := (World.ownsRow.cellAt HR.out (q * 2 + 1) (by omega)).trans (hq ▸ (flat_last r' pv pk).2)
        have hpf := World.ownsRow.frozenAt HR.out (q * 2 + 1)
        have hglt := (World.ownsRow.lt HR.out g rfl)
        have hpk := hbdk (pv, pk) (by simp)
        rw [hrl, ← hq]
        have HQ := Lib.hid hq
        clear hrow hq hrl
        have hw1 : IntKind.i64.wrap ((q : Int) + 1 - 1) = q := by rw [show (q : Int) + 1 - 1 = q by omega]; exact IntWalk.i64_in _ (by omega)
        have hw2 : IntKind.i64.wrap (q : Int) = q := IntWalk.i64_in _ (by omega)
        have hg2 : g < wr.heap.size := hglt.2
        by_cases e : pv = v
        · subst e
          have HT : Hid (tog (l.take (k + 1)) = r' ++ [(pv, pk + u)]) := htog.trans (togStep_eq _ _ _ _)
          have hbk : -(8192 * 4398046511104) ≤ pk ∧ pk ≤ 8192 * 4398046511104 := by
            simp only at hpk
            have : (k : Int) * 4398046511104 ≤ 8192 * 4398046511104 := Int.mul_le_mul_of_nonneg_right (by omega) (by omega)
            omega
          clear htog hpk hbdk
          simp only at hbm
          go_wp2_with fail
          go_quiet (fail)
          go_wp2_with fail
          go_region
          have HO : Hid (∀ W : World, W.ownsRow w.heap.size 51 2 (.slice (some ⟨g, 0, none⟩) (q + 1) cap') (q + 1) (flat (r' ++ [(pv, pk)])) → Row w.heap.size (tog (l.take (k + 1))) (.slice (some ⟨g, 0, none⟩) (q + 1) cap') (W.setCell ⟨g, q * 2 + 1, none⟩ (.int .i64 (pk + u)))) := fun W hW => by
            have h1 := (World.ownsRow.stored hW (q * 2 + 1) (.int .i64 (pk + u))).1
            rw [HQ.out, flat_set] at h1
            rw [HT.out]
            unfold Row
            rw [List.length_append, HQ.out]
            exact h1
          go_wp2
          go_roundw
          case rel => exact ⟨k + 1, by omega, by go_num, HO.out _ (ownsRow_drewN (World.ownsRow.alloc HR.out _) (nq + 1)), (below_drewN (hb.alloc hb.size _) (nq + 1)).setCell (p := ⟨g, q * 2 + 1, none⟩) hglt.1 _⟩
          case measure => simp [intOf]; omega
        · have HT : Hid (tog (l.take (k + 1)) = (r' ++ [(pv, pk)]) ++ [(v, u)]) := htog.trans (togStep_ne _ _ _ e)
          have e' : (pv == v) = false := by simpa using e
          clear htog e
          go_wp2_with fail
          go_quiet (fail)
          go_wp2_with (at_builtin; refine wpList_append_own _ rfl _ _ 22 rfl w.heap.size 51 i0 _ 2 16 Try.underlying22 hi hz0 hz1 hz2 rfl (by decide) (.slice (some ⟨g, 0, none⟩) (q + 1) cap') (q + 1) (flat (r' ++ [(pv, pk)])) rfl (World.ownsRow.alloc (ownsRow_drewN (World.ownsRow.alloc HR.out _) _) _) ⟨wr.heap.size + 1, 0, none⟩ 1 1 [.int .i64 v, .int .i64 u] rfl rfl ?c2 ?c3 ?c4 ?c5 ?c6 ?_)
          case c2 => exact fun j x hj => two_at' wr _ nq _ _ _ j x hj
          case c3 => first | exact ⟨rfl, rfl⟩ | exact flat_cells [(v, u)]
          case c4 => unfold maxLen; omega
          case c5 => omega
          case c6 => have := hb.size; simp; omega
          intro v' w1 hown' hgrow _
          have HO : Hid (Row w.heap.size (tog (l.take (k + 1))) v' w1) := by
            show Row _ _ _ _
            rw [HT.out]
            unfold Row
            rw [List.length_append, flat_append, List.length_append, ← HQ.out]
            exact hown'
          have HB : Below w.heap.size w w1 := ((below_drewN (hb.alloc hb.size _) _).alloc (by have := hb.size; simp; omega) _).grown hgrow (by have := hb.size; simp; omega) (fun j hj => (World.ownsRow.lt HR.out j hj).1)
          clear hown' hgrow HR
          go_wp2
          go_roundw
          case rel => exact ⟨k + 1, by omega, by go_num, HO, HB⟩
          case measure => simp [intOf]; omega
    · have HT : Hid (Row w.heap.size (tog l) u3 wr) := by
        have := hrow.out
        rwa [List.take_of_length_le (by rw [HN.out]; omega)] at this
      clear hrow
      go_wp2
      go_ret
      exact ⟨_, rfl, HT.out, hb⟩
end Go.Proofs.Ytknagcednppokaa
