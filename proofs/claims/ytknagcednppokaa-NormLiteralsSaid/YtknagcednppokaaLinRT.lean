/- The document's own multiples of a form. -/
import Derived.Test.YtknagcednppokaaLinAd
import Derived.Test.YtknagcednppokaaLinF
import Derived.Deep.RegionHeld3
import Derived.Deep.AppendLies
import Derived.Deep.DrawnRows
namespace Go.Proofs.Ytknagcednppokaa
open Go.RowKit

attribute [local go_sem ↓] Go.wp_at_zero Go.wp_at_succ
set_option maxRecDepth 100000 in
set_option maxHeartbeats 3200000 in
theorem rtimes_any (c x : Int) (a : Option Addr) (n cap : Nat) (l : List (Int × Int)) (w : World) (hn : l.length = n) (hm : n ≤ 64) (hl : Lies w.heap.size w a l) (hxk : ∀ m ∈ l, -4398046511104 ≤ x * m.2 ∧ x * m.2 ≤ 4398046511104) :
    Calls Try.prog 31 #[.agg #[.int .i64 c, .slice a n cap], .int .i64 x] w (RowEnd w.heap.size (scale x l) w) := by
  obtain ⟨i0, hi, hz0, hz1, hz2⟩ := info_parts Try.infoMono
  have HN := Lib.hid hn
  have HL := Lib.hid hl
  have HX := Lib.hid hxk
  have HB0 : Hid (Below (w.heap.size + 1) (w.alloc (.cells #[.int .i64 c, .slice a n cap] 24)) (w.alloc (.cells #[.int .i64 c, .slice a n cap] 24))) := Below.refl _ _
  clear hn hl hxk
  go_enter Try.func31, Try.ntmps31
  go_wp2_with fail
  go_loopw [5, 6] (fun s i wr => ∃ k : Nat, k ≤ n ∧ i = .int .i64 k ∧ Hid (Row (w.heap.size + 1) (scale x (l.take k)) s wr) ∧ Hid (Below (w.heap.size + 1) (w.alloc (.cells #[.int .i64 c, .slice a n cap] 24)) wr)) (fun _ i _ => n - (intOf i).toNat)
  case atStart => exact ⟨0, Nat.zero_le _, rfl, World.ownsRow_nil _ _ _ _, HB0⟩
  case round =>
    obtain ⟨k, hk, rfl, hrow, hb⟩ := hrel
    have hbw : Below w.heap.size w wr := ((Below.refl _ w).alloc (Nat.le_refl _) _).trans (hb.out.mono (by omega))
    have g0 : wr.cell? ⟨w.heap.size, 0, none⟩ = some (.int .i64 c) := by rw [hb.out.cell (p := ⟨w.heap.size, 0, none⟩) (by simp)]; simp
    have g1 : wr.cell? ⟨w.heap.size, 1, none⟩ = some (.slice a n cap) := by rw [hb.out.cell (p := ⟨w.heap.size, 1, none⟩) (by simp)]; simp
    have gz : w.heap.size < wr.heap.size := by have := hb.out.size; simp at this; omega
    obtain ⟨wo, rfl⟩ : ∃ wo : World, wo = wr := ⟨_, rfl⟩
    by_cases hlt : k < n
    · obtain ⟨b, off, rfl, hblt, c1, c2⟩ := (HL.out.below hbw) k (by rw [HN.out]; exact hlt)
      have hts := take_snoc l k (by rw [HN.out]; exact hlt)
      have hm2 := HX.out (l.getD k (0, 0)) (by rw [List.getD_eq_getElem?_getD, List.getElem?_eq_getElem (by rw [HN.out]; exact hlt)]; simp)
      have hrl : (scale x (l.take k)).length ≤ 128 := by rw [scale_len, List.length_take]; omega
      have HT3 : Hid (scale x (l.take (k + 1)) = scale x (l.take k) ++ [((l.getD k (0, 0)).1, x * (l.getD k (0, 0)).2)]) := by
        show _ = _
        rw [hts, scale_snoc]
      have HBW := Lib.hid hbw
      generalize (l.getD k (0, 0)).1 = v at c1 HT3
      generalize (l.getD k (0, 0)).2 = u at c2 HT3 hm2
      generalize scale x (l.take k) = r at hrow hrl HT3
      clear hts hbw
      have hzr : w.heap.size + 1 ≤ wo.heap.size := by omega
      have hown := hrow.out
      unfold Row at hown
      have al : u5.ownBlock ≠ some w.heap.size := fun e => by have := (World.ownsRow.lt hown _ e).1; omega
      have ab : u5.ownBlock ≠ some b := fun e => by have := (World.ownsRow.lt hown _ e).1; omega
      have hk0 : (0 : Int) ≤ (k : Int) := Int.natCast_nonneg _
      have hk1 : (k : Int) < (n : Int) := by omega
      have hw1 : IntKind.i64.wrap (x * u) = x * u := IntWalk.i64_in _ (by omega)
      go_wp2_with fail
      go_region_held3 (fun w' => w'.cell? ⟨w.heap.size, 1, none⟩ = some (.slice (some ⟨b, off, none⟩) n cap) ∧ w'.cell? ⟨b, off + k * 2, none⟩ = some (.int .i64 v) ∧ w'.cell? ⟨b, off + k * 2 + 1, none⟩ = some (.int .i64 u))
        (first
          | go_keep
          | (go_split_ands
             refine ⟨?_, ?_, ?_⟩
             · (rw [hgrow.cell_far _ (by simp; omega) (Ne.symm al)]; assumption)
             · (rw [hgrow.cell_far _ (by simp; omega) (Ne.symm ab)]; assumption)
             · (rw [hgrow.cell_far _ (by simp; omega) (Ne.symm ab)]; assumption)))
        ((refine step_append_lies _ (by rfl) _ _ _ (by rfl) (w.heap.size + 1) 51 i0 _ 2 16 Try.underlying22 hi hz0 hz1 hz2 rfl (by omega) u5 r.length (flat r) (by rfl) ((hown.alloc _).drew)
            ⟨wo.heap.size, 0, none⟩ 1 1 [.int .i64 v, .int .i64 (x * u)] (by rfl) (by rfl) (World.news_of_block (cs := #[.int .i64 v, .int .i64 (x * u)]) (t := 51) (fr := (0, 0)) (heap_alloc_new wo _)) (by simp [Value.oneCell'])
            (by omega) (by unfold maxLen; omega) (by omega) (by simp; omega) (wo.heap.size + 1) (by simp) ?_; intro gg cap2 w1 hown1 hgrow hat hlt2))
      have HO : Hid (Row (w.heap.size + 1) (scale x (l.take (k + 1))) (.slice (some ⟨gg, 0, none⟩) (r.length + 1) cap2) w1) := by
        show Row _ _ _ _
        rw [HT3.out]
        unfold Row
        rw [List.length_append, flat_append]
        exact hown1
      have HB : Hid (Below (w.heap.size + 1) (w.alloc (.cells #[.int .i64 c, .slice (some ⟨b, off, none⟩) n cap] 24)) w1) := ((hb.out.alloc hzr _).drew).grown hgrow (by simp; omega) (fun j hj => (World.ownsRow.lt hown j hj).1)
      clear hown1 hgrow hrow hown
      go_wp2
      go_roundw
      case rel => exact ⟨k + 1, by omega, by go_num, HO, HB⟩
      case measure => simp [intOf]; omega
    · have HF : Hid (Row (w.heap.size + 1) (scale x l) u5 wo) := by
        have := hrow.out
        rwa [List.take_of_length_le (by rw [HN.out]; omega)] at this
      have HBW := Lib.hid hbw
      clear hrow hbw
      go_wp2_with fail
      go_ret
      exact ⟨_, rfl, HF.out.mono (by omega), HBW.out⟩
end Go.Proofs.Ytknagcednppokaa
