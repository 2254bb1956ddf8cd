/- Lists of terms that the call itself makes: slices.Clone, lin.drop. -/
import Derived.Test.YtelndcmfddbgiaaDoorCt03
set_option linter.unusedVariables false
set_option linter.unusedSimpArgs false
namespace Go.Proofs.YtelndcmfddbgiaaDoor
open Go.RowKit

/-- The cells of a list of terms. -/
def flat (l : List (Int × Int)) : List Value := l.flatMap fun m => [.int .i64 m.1, .int .i64 m.2]
theorem flat_len (l : List (Int × Int)) : (flat l).length = l.length * 2 := by
  induction l with
  | nil => rfl
  | cons a r ih => simp [flat] at ih ⊢; omega
theorem flat_append (l r : List (Int × Int)) : flat (l ++ r) = flat l ++ flat r := by simp [flat]
theorem flat_one (v k : Int) : flat [(v, k)] = [.int .i64 v, .int .i64 k] := rfl
theorem flat_get : ∀ (l : List (Int × Int)) (i : Nat), i < l.length → (flat l)[i * 2]? = some (.int .i64 (l.getD i (0, 0)).1) ∧ (flat l)[i * 2 + 1]? = some (.int .i64 (l.getD i (0, 0)).2)
  | a :: r, 0, _ => ⟨rfl, rfl⟩
  | a :: r, i + 1, h => by
    have := flat_get r i (by simpa using h)
    have e : flat (a :: r) = .int .i64 a.1 :: .int .i64 a.2 :: flat r := rfl
    rw [e, show (i + 1) * 2 = i * 2 + 1 + 1 by omega]
    simpa using this

/-- A result that is a list of the call's own. -/
def Row (B : Nat) (l : List (Int × Int)) (v : Value) (w : World) : Prop := w.ownsRow B 57 2 v l.length (flat l)

theorem Row.lies {B : Nat} {l : List (Int × Int)} {v : Value} {w : World} (h : Row B l v w) : ∃ a cap, v = .slice a l.length cap ∧ Lies w.heap.size w a l ∧ (a = none → l.length = 0 ∧ cap = 0) := by
  have hc := fun g => World.ownsRow.cells h (g := g)
  have hlt := World.ownsRow.lt h
  obtain ⟨_, h1 | ⟨g, cap, cur, hv, h2⟩⟩ := h
  · refine ⟨none, 0, by rw [h1.1, h1.2], fun i hi => by omega, fun _ => ⟨h1.2, rfl⟩⟩
  · subst hv
    refine ⟨some ⟨g, 0, none⟩, cap, rfl, fun i hi => ⟨g, 0, rfl, (hlt g rfl).2, ?_, ?_⟩, fun e => by cases e⟩
    · have := hc g rfl (i * 2) _ (flat_get l i hi).1
      rwa [show (⟨g, 0, none⟩ : Addr).add (i * 2) = ⟨g, 0 + i * 2, none⟩ by unfold Addr.add; split <;> simp_all] at this
    · have := hc g rfl (i * 2 + 1) _ (flat_get l i hi).2
      rwa [show (⟨g, 0, none⟩ : Addr).add (i * 2 + 1) = ⟨g, 0 + i * 2 + 1, none⟩ by unfold Addr.add; simp] at this

theorem Tryd.infoMono : (Tryd.prog.info? 57).map (fun i => (i.zero, i.size, i.bytes)) = some (some (.agg #[.int .i64 0, .int .i64 0]), 2, 16) := by kernel_rfl

/-- The cells of a list that lies in memory, one behind the other. -/
theorem Lies.news {B : Nat} {w : World} {a : Addr} {l : List (Int × Int)} (h : Lies B w (some a) l) : ∀ j u, (flat l)[j]? = some u → w.cell? (a.add j) = some u := by
  intro j u hj
  have hjl : j < l.length * 2 := by rw [← flat_len]; exact (List.getElem?_eq_some_iff.1 hj).1
  obtain ⟨b, off, ha, _, h1, h2⟩ := h (j / 2) (by omega)
  injection ha with ha
  subst ha
  have hg := flat_get l (j / 2) (by omega)
  rcases Nat.mod_two_eq_zero_or_one j with hm | hm
  · have e : j / 2 * 2 = j := by omega
    rw [e] at hg h1
    rw [hg.1] at hj
    injection hj with hj
    subst hj
    unfold Addr.add
    split
    · rename_i h0; subst h0; simpa using h1
    · exact h1
  · have e : j / 2 * 2 + 1 = j := by omega
    rw [Nat.add_assoc, e] at h2
    rw [e] at hg
    rw [hg.2] at hj
    injection hj with hj
    subst hj
    unfold Addr.add
    rw [if_neg (by omega)]
    exact h2
theorem flat_cells (l : List (Int × Int)) : ∀ u ∈ flat l, u.oneCell' = true := by
  intro u hu
  simp only [flat, List.mem_flatMap] at hu
  obtain ⟨m, _, hm⟩ := hu
  simp at hm
  rcases hm with rfl | rfl <;> rfl

def RowEnd (B : Nat) (l : List (Int × Int)) (w : World) (e : Ending) (w' : World) : Prop := ∃ v, e = .returned v ∧ Row B l v w' ∧ Below B w w'

theorem take_snoc (l : List (Int × Int)) (k : Nat) (h : k < l.length) : l.take (k + 1) = l.take k ++ [l.getD k (0, 0)] := by
  rw [List.take_succ_eq_append_getElem h]
  simp [List.getD_eq_getElem?_getD, h]

theorem Row.alloc {B : Nat} {l : List (Int × Int)} {v : Value} {w : World} (h : Row B l v w) (o : Obj) : Row B l v (w.alloc o) := World.ownsRow.alloc h o

/-- A new block of a term's two cells. -/
theorem cell_two_new' (w : World) (x y : Value) (t : TypeId) : ∀ j u, [x, y][j]? = some u → (w.alloc (.cells #[x, y] t)).cell? ((⟨w.heap.size, 0, none⟩ : Addr).add j) = some u := by
  intro j u hj
  match j, hj with
  | 0, hj => simp at hj; subst hj; simp [Addr.add]
  | 1, hj => simp at hj; subst hj; simp [Addr.add]

set_option maxHeartbeats 800000 in
theorem drop_any (a : Option Addr) (n cap : Nat) (l : List (Int × Int)) (w : World) (hn : l.length = n) (hm : n ≤ 8192) (hl : Lies w.heap.size w a l) :
    Calls Tryd.prog 89 #[.slice a n cap] w (RowEnd w.heap.size (l.filter fun m => m.2 != 0) w) := by
  obtain ⟨i0, hi, hz0, hz1, hz2⟩ := info_parts Tryd.infoMono
  have HN := Lib.hid hn
  have HL := Lib.hid hl
  clear hn hl
  go_enter Tryd.func89, Tryd.ntmps89
  go_wp2
  go_loopw [3, 8] (fun s i wr => ∃ k : Nat, k ≤ n ∧ i = .int .i64 k ∧ Hid (Row w.heap.size ((l.take k).filter fun m => m.2 != 0) s wr) ∧ Below w.heap.size w wr) (fun _ i _ => n - (intOf i).toNat)
  case atStart => exact ⟨0, Nat.zero_le _, rfl, World.ownsRow_nil _ _ _ _, Below.refl _ _⟩
  case round =>
    obtain ⟨k, hk, rfl, hrow, hb⟩ := hrel
    by_cases hlt : k < n
    · obtain ⟨b, off, rfl, hblt, c1, c2⟩ := (HL.out.below hb) k (by rw [HN.out]; exact hlt)
      have hts := take_snoc l k (by rw [HN.out]; exact hlt)
      have hlen : ((l.take k).filter fun m => m.2 != 0).length ≤ k := Nat.le_trans (List.length_filter_le _ _) (by rw [List.length_take]; omega)
      generalize hg : l.getD k (0, 0) = m at c1 c2 hts
      obtain ⟨v, u⟩ := m
      by_cases hu : u = 0
      · have HT : Hid ((l.take (k + 1)).filter (fun m => m.2 != 0) = (l.take k).filter fun m => m.2 != 0) := by
          show _ = _; rw [hts, List.filter_append]; simp [hu]
        subst hu
        clear hts hg
        have hrow2 : Hid (Row w.heap.size ((l.take (k + 1)).filter fun m => m.2 != 0) u3 wr) := by show Row _ _ _ _; rw [HT.out]; exact hrow.out
        go_wp2
        go_roundw
        case rel => exact ⟨k + 1, by omega, by go_num, hrow2.out.alloc _, hb.alloc hb.size _⟩
        case measure => simp [intOf]; omega
      · have hu2 : (u != 0) = true := by simpa using hu
        have HT : Hid ((l.take (k + 1)).filter (fun m => m.2 != 0) = ((l.take k).filter fun m => m.2 != 0) ++ [(v, u)]) := by
          show _ = _; rw [hts, List.filter_append]; simp [hu]
        generalize (l.take k).filter (fun m => m.2 != 0) = r at hrow hlen HT
        clear hts hg
        go_wp2_with (at_builtin; refine wpList_append_own _ rfl _ _ 22 rfl w.heap.size 57 i0 _ 2 16 Tryd.underlying22 hi hz0 hz1 hz2 rfl (by decide) u3 r.length (flat r) rfl ((hrow.out.alloc _).alloc _) ⟨wr.heap.size + 1, 0, none⟩ 1 1 [.int .i64 v, .int .i64 u] rfl rfl ?c2 ?c3 ?c4 ?c5 ?c6 ?_)
        case c3 => exact ⟨rfl, rfl⟩
        case c4 => unfold maxLen; omega
        case c5 => omega
        case c6 => have := hb.size; simp; omega
        intro v' w1 hown' hgrow _
        have HO : Hid (Row w.heap.size ((l.take (k + 1)).filter fun m => m.2 != 0) v' w1) := by
          show Row _ _ _ _
          rw [HT.out]
          unfold Row
          rw [List.length_append, flat_append]
          exact hown'
        have HB : Below w.heap.size w w1 := ((hb.alloc hb.size _).alloc (by have := hb.size; simp; omega) _).grown hgrow (by have := hb.size; simp; omega) (fun k hk => (World.ownsRow.lt hrow.out k hk).1)
        clear hown' hgrow hrow
        go_wp2
        go_roundw
        case rel => exact ⟨k + 1, by omega, by go_num, HO, HB⟩
        case measure => simp [intOf]; omega
    · have HT : Hid (Row w.heap.size (l.filter fun m => m.2 != 0) u3 wr) := by
        have := hrow.out
        rwa [List.take_of_length_le (by rw [HN.out]; omega)] at this
      clear hrow
      go_wp2
      go_ret
      exact ⟨_, rfl, HT.out, hb⟩
end Go.Proofs.YtelndcmfddbgiaaDoor
