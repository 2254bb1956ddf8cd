/- What a divided form is. The document's Up; what a round of its Literal keeps. The document's own multiples of a form. The document's Literal: the ways without division; the state of its round. -/
import Derived.Test.YtknagcednppokaaNr04
import Derived.Test.YtknagcednppokaaNr10
import Derived.Test.YtknagcednppokaaNr14
import Derived.Deep.RegionLaw
import Derived.Maps.Range
import Derived.Deep.RegionHeld3
import Derived.Deep.AppendLies
import Derived.Deep.DrawnRows
set_option linter.unusedVariables false
set_option linter.unusedSimpArgs false
namespace Go.Proofs.Ytknagcednppokaa
open Go.RowKit

theorem okAt_mkG {l : List (Int × Int)} {i : Nat} (h : lastAt l i < (l.getD i (0, 0)).1 ∧ (l.getD i (0, 0)).2 ≠ 0 ∧ 0 ≤ (l.getD i (0, 0)).1 ∧ (l.getD i (0, 0)).1 < 1048576 ∧ -1073741824 ≤ (l.getD i (0, 0)).2 ∧ (l.getD i (0, 0)).2 ≤ 1073741824) : okAt l i = true := by
  obtain ⟨h1, h2, h3, h4, h5, h6⟩ := h
  unfold okAt chk mst wi
  simp only [Bool.and_eq_true, decide_eq_true_eq]
  exact ⟨h1, h2, ⟨h3, h4⟩, h5, h6⟩
theorem upI_wi {c g : Int} (hc : -1073741824 ≤ c ∧ c ≤ 1073741824) (hg : 1 ≤ g) : -1073741824 ≤ upI c g ∧ upI c g ≤ 1073741824 := by
  have h := tdiv_in (c := c) (g := g) (B := 1073741824) (by omega)
  unfold upI
  split
  · rename_i hm
    have hg2 : 2 ≤ g := by
      by_cases e : g = 1
      · subst e; rw [Int.tmod_one] at hm; omega
      · omega
    have h1 : (c.tdiv g).natAbs = c.natAbs / g.natAbs := Int.natAbs_tdiv c g
    have h2 : c.natAbs / g.natAbs ≤ c.natAbs / 2 := Nat.div_le_div_left (by omega) (by omega)
    omega
  · omega
theorem gAt_dvd (l : List (Int × Int)) : ∀ n j, j < n → gAt l n ∣ (l.getD j (0, 0)).2
  | 0, _, h => absurd h (Nat.not_lt_zero _)
  | n + 1, j, h => by
    have e : gAt l (n + 1) = (Nat.gcd (gAt l n).natAbs (l.getD n (0, 0)).2.natAbs : Nat) := rfl
    rw [e]
    by_cases hj : j = n
    · subst hj
      exact Int.ofNat_dvd_left.2 (Nat.gcd_dvd_right _ _)
    · have ih := gAt_dvd l n j (by omega)
      have h1 : ((Nat.gcd (gAt l n).natAbs (l.getD n (0, 0)).2.natAbs : Nat) : Int) ∣ gAt l n := Int.ofNat_dvd_left.2 (Nat.gcd_dvd_left _ _)
      exact Int.dvd_trans h1 ih
theorem tdiv_ne {k g : Int} (hk : k ≠ 0) (hg : 1 ≤ g) (hd : g ∣ k) : k.tdiv g ≠ 0 := by
  obtain ⟨q, rfl⟩ := hd
  rw [Int.mul_tdiv_cancel_left _ (by omega)]
  intro h
  subst h
  exact hk (Int.mul_zero _)
theorem redL_len (g : Int) (l : List (Int × Int)) : (redL g l).length = l.length := by unfold redL; rw [List.length_map]
theorem redL_last (g : Int) (l : List (Int × Int)) (i : Nat) (h : i < l.length) : lastAt (redL g l) i = lastAt l i := by
  unfold lastAt
  by_cases h0 : i = 0
  · rw [if_pos h0, if_pos h0]
  · rw [if_neg h0, if_neg h0, redL_get g l (i - 1) (by omega)]
/-- A sound form divided is sound. -/
theorem red_snd {c : Int} {l : List (Int × Int)} (hs : snd c l = true) (h0 : 0 < l.length) : snd (upI c (gAt l l.length)) (redL (gAt l l.length) l) = true := by
  obtain ⟨hc, h64, hall⟩ := snd_iff.1 hs
  have hcb : -1073741824 ≤ c ∧ c ≤ 1073741824 := by unfold wi at hc; simpa using hc
  have hg := gAt_pos hs l.length h0 (Nat.le_refl _)
  refine snd_iff.2 ⟨wi_t (upI_wi hcb hg), by rw [redL_len]; exact h64, fun i hi => ?_⟩
  rw [redL_len] at hi
  obtain ⟨h1, h2, h3, h4, h5, h6⟩ := okAt_in (hall i hi)
  have hd := tdiv_ne h2 hg (gAt_dvd l l.length i hi)
  have hb := tdiv_in (c := (l.getD i (0, 0)).2) (g := gAt l l.length) (B := 1073741824) (by omega)
  refine okAt_mkG ?_
  rw [redL_last _ _ _ hi, redL_get _ _ _ hi]
  exact ⟨h1, hd, h3, h4, by omega, by omega⟩
theorem snd_lt {c : Int} {l : List (Int × Int)} (hs : snd c l = true) : ∀ j i, i < j → j < l.length → (l.getD i (0, 0)).1 < (l.getD j (0, 0)).1
  | 0, i, h, _ => absurd h (Nat.not_lt_zero i)
  | j + 1, i, h, hj => by
    have h1 := (okAt_in ((snd_iff.1 hs).2.2 (j + 1) hj)).1
    rw [lastAt_succ] at h1
    by_cases e : i = j
    · rw [e]; exact h1
    · have := snd_lt hs j i (by omega) (by omega)
      omega
theorem snd_Up {c : Int} {l : List (Int × Int)} (hs : snd c l = true) : Up l := by
  refine List.pairwise_iff_getElem.2 fun i j hi hj hij => ?_
  have := snd_lt hs j i hij hj
  rwa [List.getD_eq_getElem?_getD, List.getElem?_eq_getElem hi, List.getD_eq_getElem?_getD, List.getElem?_eq_getElem hj] at this
theorem neg_sum {c : Int} {l : List (Int × Int)} (hs : snd c l = true) : IsSum (scale 1 [] ++ scale (-1) l) (scale (-1) l) := by
  refine ⟨?_, fun m hm => ?_, fun v => by rw [show scale 1 [] = [] from rfl, List.nil_append]⟩
  · exact List.Pairwise.map _ (fun a b h => h) (snd_Up hs)
  · obtain ⟨p, hp, rfl⟩ := List.mem_map.1 hm
    obtain ⟨i, hi, rfl⟩ := List.getElem_of_mem hp
    have := (okAt_in ((snd_iff.1 hs).2.2 i hi)).2.1
    rw [List.getD_eq_getElem?_getD, List.getElem?_eq_getElem hi] at this
    simp only [Option.getD_some] at this
    simp only
    omega
theorem neg_wi {c : Int} {l : List (Int × Int)} (hs : snd c l = true) : ∀ m ∈ scale (-1) l, wi m.2 1073741824 = true := fun m hm => by
  obtain ⟨p, hp, rfl⟩ := List.mem_map.1 hm
  have := (snd_terms hs p hp).2
  exact wi_t (by simp only; omega)
end Go.Proofs.Ytknagcednppokaa

namespace Go.Proofs.Ytknagcednppokaa
open Go.RowKit

theorem upI_ceil {c g : Int} (hg : 1 ≤ g) : c ≤ upI c g * g ∧ (upI c g - 1) * g < c := by
  have h1 : c.tmod g + g * c.tdiv g = c := Int.tmod_add_mul_tdiv c g
  have h2 : c.tmod g < g := Int.tmod_lt_of_pos c (by omega)
  have h3 : -g < c.tmod g := by
    have := Int.natAbs_tmod c g
    have h4 : c.natAbs % g.natAbs < g.natAbs := Nat.mod_lt _ (by omega)
    omega
  rw [Int.mul_comm] at h1
  unfold upI
  generalize c.tdiv g = q at h1 ⊢
  generalize c.tmod g = r at h1 h2 h3 ⊢
  have e1 : (q + 1) * g = q * g + g := by rw [Int.add_mul, Int.one_mul]
  have e2 : (q - 1) * g = q * g - g := by rw [Int.sub_mul, Int.one_mul]
  generalize q * g = X at h1 e1 e2
  split
  · rw [e1, show q + 1 - 1 = q by omega]
    constructor
    · omega
    · rename_i h5
      have : q * g = X := by have := e1; rw [Int.add_mul, Int.one_mul] at this; omega
      omega
  · rw [e2]
    have : q * g = X := by have := e1; rw [Int.add_mul, Int.one_mul] at this; omega
    omega
theorem upI_near (c g : Int) : c.tdiv g = upI c g ∨ c.tdiv g = upI c g - 1 := by
  unfold upI
  split <;> omega

set_option maxHeartbeats 1000000 in
theorem rup_any (c g : Int) (w : World) (hg : 1 ≤ g ∧ g ≤ 1073741824) (hc : -1073741824 ≤ c ∧ c ≤ 1073741824) :
    Calls Try.prog 30 #[.int .i64 c, .int .i64 g] w fun e w' => e = .returned (.int .i64 (upI c g)) ∧ w = w' := by
  have hg0 : g ≠ 0 := by omega
  obtain ⟨k1, k2⟩ := upI_ceil (c := c) hg.1
  have hn := upI_near c g
  have hub := upI_in (c := c) (g := g) (B := 1073741824) (by omega)
  have hqb := tdiv_in (c := c) (g := g) (B := 1073741824) (by omega)
  have hwd : IntKind.i64.wrap (c.tdiv g) = c.tdiv g := IntWalk.i64_in _ (by omega)
  generalize upI c g = u at k1 k2 hn hub ⊢
  have e2 : (u - 1) * g = u * g - g := by rw [Int.sub_mul, Int.one_mul]
  have hw1 : IntKind.i64.wrap (u * g) = u * g := IntWalk.i64_in _ (by rw [e2] at k2; omega)
  have hw2 : IntKind.i64.wrap ((u - 1) * g) = (u - 1) * g := IntWalk.i64_in _ (by rw [e2] at k2 ⊢; omega)
  have k1' : ¬ u * g < c := by omega
  have k2' : ¬ c ≤ (u - 1) * g := by omega
  have HN := Lib.hid hn
  clear hn e2 k1
  go_enter Try.func30, Try.ntmps30
  go_wp2_with fail
  go_loopw [5] (fun s wr => ∃ q : Int, s = .int .i64 q ∧ (q = u ∨ q = u - 1) ∧ w = wr) (fun s _ => (u - intOf s).toNat)
  case atStart => exact ⟨c.tdiv g, rfl, HN.out, rfl⟩
  case round =>
    obtain ⟨q, rfl, hq, rfl⟩ := hrel
    rcases hq with rfl | rfl
    · go_wp2_with fail
      go_loopw [5] (fun s wr => s = .int .i64 q ∧ w = wr) (fun _ _ => 0)
      case atStart => exact ⟨rfl, rfl⟩
      case round =>
        obtain ⟨rfl, rfl⟩ := hrel
        go_wp2_with fail
        go_ret
        exact ⟨rfl, rfl⟩
    · have k3 : (u - 1) * g < c := by omega
      go_wp2_with fail
      go_roundw
      case rel => exact ⟨u, by go_num, .inl rfl, trivial⟩
      case measure => simp [intOf]; omega
end Go.Proofs.Ytknagcednppokaa

namespace Go.Proofs.Ytknagcednppokaa
open Go.RowKit

attribute [local go_sem ↓] Go.wp_at_zero Go.wp_at_succ
set_option maxRecDepth 100000 in
set_option maxHeartbeats 3200000 in
theorem rtimes_any (c x : Int) (a : Option Addr) (n cap : Nat) (l : List (Int × Int)) (w : World) (hn : l.length = n) (hm : n ≤ 64) (hl : Lies w.heap.size w a l) (hxk : ∀ m ∈ l, -4398046511104 ≤ x * m.2 ∧ x * m.2 ≤ 4398046511104) :
    Calls Try.prog 31 #[.agg #[.int .i64 c, .slice a n cap], .int .i64 x] w (RowEnd w.heap.size (scale x l) w) := by
  obtain ⟨i0, hi, hz0, hz1, hz2⟩ := info_parts Try.infoMono
  have HN := Lib.hid hn
  have HL := Lib.hid hl
  have HX := Lib.hid hxk
  have HB0 : Hid (Below (w.heap.size + 1) (w.alloc (.cells #[.int .i64 c, .slice a n cap] 24)) (w.alloc (.cells #[.int .i64 c, .slice a n cap] 24))) := Below.refl _ _
  clear hn hl hxk
  go_enter Try.func31, Try.ntmps31
  go_wp2_with fail
  go_loopw [5, 6] (fun s i wr => ∃ k : Nat, k ≤ n ∧ i = .int .i64 k ∧ Hid (Row (w.heap.size + 1) (scale x (l.take k)) s wr) ∧ Hid (Below (w.heap.size + 1) (w.alloc (.cells #[.int .i64 c, .slice a n cap] 24)) wr)) (fun _ i _ => n - (intOf i).toNat)
  case atStart => exact ⟨0, Nat.zero_le _, rfl, World.ownsRow_nil _ _ _ _, HB0⟩
  case round =>
    obtain ⟨k, hk, rfl, hrow, hb⟩ := hrel
    have hbw : Below w.heap.size w wr := ((Below.refl _ w).alloc (Nat.le_refl _) _).trans (hb.out.mono (by omega))
    have g0 : wr.cell? ⟨w.heap.size, 0, none⟩ = some (.int .i64 c) := by rw [hb.out.cell (p := ⟨w.heap.size, 0, none⟩) (by simp)]; simp
    have g1 : wr.cell? ⟨w.heap.size, 1, none⟩ = some (.slice a n cap) := by rw [hb.out.cell (p := ⟨w.heap.size, 1, none⟩) (by simp)]; simp
    have gz : w.heap.size < wr.heap.size := by have := hb.out.size; simp at this; omega
    obtain ⟨wo, rfl⟩ : ∃ wo : World, wo = wr := ⟨_, rfl⟩
    by_cases hlt : k < n
    · obtain ⟨b, off, rfl, hblt, c1, c2⟩ := (HL.out.below hbw) k (by rw [HN.out]; exact hlt)
      have hts := take_snoc l k (by rw [HN.out]; exact hlt)
      have hm2 := HX.out (l.getD k (0, 0)) (by rw [List.getD_eq_getElem?_getD, List.getElem?_eq_getElem (by rw [HN.out]; exact hlt)]; simp)
      have hrl : (scale x (l.take k)).length ≤ 128 := by rw [scale_len, List.length_take]; omega
      have HT3 : Hid (scale x (l.take (k + 1)) = scale x (l.take k) ++ [((l.getD k (0, 0)).1, x * (l.getD k (0, 0)).2)]) := by
        show _ = _
        rw [hts, scale_snoc]
      have HBW := Lib.hid hbw
      generalize (l.getD k (0, 0)).1 = v at c1 HT3
      generalize (l.getD k (0, 0)).2 = u at c2 HT3 hm2
      generalize scale x (l.take k) = r at hrow hrl HT3
      clear hts hbw
      have hzr : w.heap.size + 1 ≤ wo.heap.size := by omega
      have hown := hrow.out
      unfold Row at hown
      have al : u5.ownBlock ≠ some w.heap.size := fun e => by have := (World.ownsRow.lt hown _ e).1; omega
      have ab : u5.ownBlock ≠ some b := fun e => by have := (World.ownsRow.lt hown _ e).1; omega
      have hk0 : (0 : Int) ≤ (k : Int) := Int.natCast_nonneg _
      have hk1 : (k : Int) < (n : Int) := by omega
      have hw1 : IntKind.i64.wrap (x * u) = x * u := IntWalk.i64_in _ (by omega)
      go_wp2_with fail
      go_region_held3 (fun w' => w'.cell? ⟨w.heap.size, 1, none⟩ = some (.slice (some ⟨b, off, none⟩) n cap) ∧ w'.cell? ⟨b, off + k * 2, none⟩ = some (.int .i64 v) ∧ w'.cell? ⟨b, off + k * 2 + 1, none⟩ = some (.int .i64 u))
        (first
          | go_keep
          | (go_split_ands
             refine ⟨?_, ?_, ?_⟩
             · (rw [hgrow.cell_far _ (by simp; omega) (Ne.symm al)]; assumption)
             · (rw [hgrow.cell_far _ (by simp; omega) (Ne.symm ab)]; assumption)
             · (rw [hgrow.cell_far _ (by simp; omega) (Ne.symm ab)]; assumption)))
        ((refine step_append_lies _ (by rfl) _ _ _ (by rfl) (w.heap.size + 1) 51 i0 _ 2 16 Try.underlying22 hi hz0 hz1 hz2 rfl (by omega) u5 r.length (flat r) (by rfl) ((hown.alloc _).drew)
            ⟨wo.heap.size, 0, none⟩ 1 1 [.int .i64 v, .int .i64 (x * u)] (by rfl) (by rfl) (World.news_of_block (cs := #[.int .i64 v, .int .i64 (x * u)]) (t := 51) (fr := (0, 0)) (heap_alloc_new wo _)) (by simp [Value.oneCell'])
            (by omega) (by unfold maxLen; omega) (by omega) (by simp; omega) (wo.heap.size + 1) (by simp) ?_; intro gg cap2 w1 hown1 hgrow hat hlt2))
      have HO : Hid (Row (w.heap.size + 1) (scale x (l.take (k + 1))) (.slice (some ⟨gg, 0, none⟩) (r.length + 1) cap2) w1) := by
        show Row _ _ _ _
        rw [HT3.out]
        unfold Row
        rw [List.length_append, flat_append]
        exact hown1
      have HB : Hid (Below (w.heap.size + 1) (w.alloc (.cells #[.int .i64 c, .slice (some ⟨b, off, none⟩) n cap] 24)) w1) := ((hb.out.alloc hzr _).drew).grown hgrow (by simp; omega) (fun j hj => (World.ownsRow.lt hown j hj).1)
      clear hown1 hgrow hrow hown
      go_wp2
      go_roundw
      case rel => exact ⟨k + 1, by omega, by go_num, HO, HB⟩
      case measure => simp [intOf]; omega
    · have HF : Hid (Row (w.heap.size + 1) (scale x l) u5 wo) := by
        have := hrow.out
        rwa [List.take_of_length_le (by rw [HN.out]; omega)] at this
      have HBW := Lib.hid hbw
      clear hrow hbw
      go_wp2_with fail
      go_ret
      exact ⟨_, rfl, HF.out.mono (by omega), HBW.out⟩
end Go.Proofs.Ytknagcednppokaa

namespace Go.Proofs.Ytknagcednppokaa
open Go.RowKit

set_option maxHeartbeats 1000000 in
theorem rlit_bad (c : Int) (a : Option Addr) (n cap : Nat) (l : List (Int × Int)) (w : World) (hn : l.length = n) (hm : n ≤ 9223372036854775807) (hl : Lies w.heap.size w a l) (hs : snd c l = false) :
    Calls Try.prog 11 #[.agg #[.int .i64 c, .slice a n cap]] w (LitEnd w.heap.size (.mk 0 0 [] []) (.int .i64 5) w) := by
  have HCK : Hid (∀ W, Below w.heap.size w W → Calls Try.prog 28 #[.agg #[.int .i64 c, .slice a n cap]] W fun e w' => e = .returned (.bool false) ∧ Below W.heap.size W w') := fun W hb => by
    have := rcheck_any c a n cap l W hn hm ((hl.below hb).mono hb.size)
    rwa [hs] at this
  have hb1 : Below w.heap.size w (w.alloc (.cells #[.int .i64 c, .slice a n cap] 24)) := (Below.refl _ w).alloc (Nat.le_refl _) _
  have B0 : Hid (Below w.heap.size w ((w.alloc (.cells #[.int .i64 c, .slice a n cap] 24)).alloc (.cells #[.int .i64 0, .int .i64 0, .slice none 0 0, .slice none 0 0] 28))) := hb1.alloc hb1.size _
  have F0 := Lib.hid (fb_new (w.alloc (.cells #[.int .i64 c, .slice a n cap] 24)) (w.heap.size + 1) (by simp))
  have hb2 := (Below.refl (w.alloc (.cells #[.int .i64 c, .slice a n cap] 24)).heap.size (w.alloc (.cells #[.int .i64 c, .slice a n cap] 24))).alloc (Nat.le_refl _) (.cells #[.int .i64 0, .int .i64 0, .slice none 0 0, .slice none 0 0] 28)
  have l0 : ((w.alloc (.cells #[.int .i64 c, .slice a n cap] 24)).alloc (.cells #[.int .i64 0, .int .i64 0, .slice none 0 0, .slice none 0 0] 28)).cell? ⟨w.heap.size, 0, none⟩ = some (.int .i64 c) := by rw [hb2.cell (p := ⟨w.heap.size, 0, none⟩) (by simp)]; simp
  have l1 : ((w.alloc (.cells #[.int .i64 c, .slice a n cap] 24)).alloc (.cells #[.int .i64 0, .int .i64 0, .slice none 0 0, .slice none 0 0] 28)).cell? ⟨w.heap.size, 1, none⟩ = some (.slice a n cap) := by rw [hb2.cell (p := ⟨w.heap.size, 1, none⟩) (by simp)]; simp
  clear hb1 hb2 hs hl hn
  go_enter Try.func11, Try.ntmps11
  go_wp2_with fail
  refine (HCK.out _ B0.out).mono ?_
  rintro e w2 ⟨rfl, hb2⟩
  have B2 := Lib.hid (B0.out.trans (hb2.mono B0.out.size))
  have F2 := Lib.hid (F0.out.below hb2 (by simp))
  clear hb2 l0 l1
  obtain ⟨r0, r1, r2, r3, rf⟩ := F2.out
  go_wp2_with fail
  clear r0 r1 r2 r3 rf
  refine bodyPost_ret (v := .tuple #[.agg #[.int .i64 0, .int .i64 0, .slice none 0 0, .slice none 0 0], .int .i64 5]) ?_ rfl ⟨_, rfl, flies_flat, below4 B2.out (Nat.le_succ _) _ _ _ _⟩
  obtain ⟨e0, e1, e2, e3⟩ := res4 F2.out (.int .i64 0) (.int .i64 0) (.slice none 0 0) (.slice none 0 0)
  simp [results, Try.results11, go_sem, e0, e1, e2, e3]

set_option maxHeartbeats 1000000 in
theorem rlit_none (c : Int) (a : Option Addr) (cap : Nat) (w : World) (hs : snd c [] = true) (k : Int) (hk : k = if c ≤ 0 then 0 else 1) :
    Calls Try.prog 11 #[.agg #[.int .i64 c, .slice a 0 cap]] w (LitEnd w.heap.size (.mk k 0 [] []) (.int .i64 0) w) := by
  have HCK : Hid (∀ W, Below w.heap.size w W → Calls Try.prog 28 #[.agg #[.int .i64 c, .slice a 0 cap]] W fun e w' => e = .returned (.bool true) ∧ Below W.heap.size W w') := fun W hb => by
    have := rcheck_any c a 0 cap [] W rfl (by omega) (fun i hi => absurd hi (Nat.not_lt_zero i))
    rwa [hs] at this
  have hb1 : Below w.heap.size w (w.alloc (.cells #[.int .i64 c, .slice a 0 cap] 24)) := (Below.refl _ w).alloc (Nat.le_refl _) _
  have B0 : Hid (Below w.heap.size w ((w.alloc (.cells #[.int .i64 c, .slice a 0 cap] 24)).alloc (.cells #[.int .i64 0, .int .i64 0, .slice none 0 0, .slice none 0 0] 28))) := hb1.alloc hb1.size _
  have F0 := Lib.hid (fb_new (w.alloc (.cells #[.int .i64 c, .slice a 0 cap] 24)) (w.heap.size + 1) (by simp))
  have hb2 := (Below.refl (w.alloc (.cells #[.int .i64 c, .slice a 0 cap] 24)).heap.size (w.alloc (.cells #[.int .i64 c, .slice a 0 cap] 24))).alloc (Nat.le_refl _) (.cells #[.int .i64 0, .int .i64 0, .slice none 0 0, .slice none 0 0] 28)
  have l0 : ((w.alloc (.cells #[.int .i64 c, .slice a 0 cap] 24)).alloc (.cells #[.int .i64 0, .int .i64 0, .slice none 0 0, .slice none 0 0] 28)).cell? ⟨w.heap.size, 0, none⟩ = some (.int .i64 c) := by rw [hb2.cell (p := ⟨w.heap.size, 0, none⟩) (by simp)]; simp
  have l1 : ((w.alloc (.cells #[.int .i64 c, .slice a 0 cap] 24)).alloc (.cells #[.int .i64 0, .int .i64 0, .slice none 0 0, .slice none 0 0] 28)).cell? ⟨w.heap.size, 1, none⟩ = some (.slice a 0 cap) := by rw [hb2.cell (p := ⟨w.heap.size, 1, none⟩) (by simp)]; simp
  clear hb1 hb2 hs
  by_cases hc : c ≤ 0
  · rw [if_pos hc] at hk
    subst hk
    have hc' : ¬ 0 < c := by omega
    go_enter Try.func11, Try.ntmps11
    go_wp2_with fail
    refine (HCK.out _ B0.out).mono ?_
    rintro e w2 ⟨rfl, hb2⟩
    have B2 := Lib.hid (B0.out.trans (hb2.mono B0.out.size))
    have F2 := Lib.hid (F0.out.below hb2 (by simp))
    have d0 : w2.cell? ⟨w.heap.size, 0, none⟩ = some (.int .i64 c) := (hb2.cell (p := ⟨w.heap.size, 0, none⟩) (by simp; omega)).trans l0
    have d1 : w2.cell? ⟨w.heap.size, 1, none⟩ = some (.slice a 0 cap) := (hb2.cell (p := ⟨w.heap.size, 1, none⟩) (by simp; omega)).trans l1
    clear hb2 l0 l1
    obtain ⟨r0, r1, r2, r3, rf⟩ := F2.out
    go_wp2_with fail
    clear r0 r1 r2 r3 rf d0 d1
    refine bodyPost_ret (v := .tuple #[.agg #[.int .i64 0, .int .i64 0, .slice none 0 0, .slice none 0 0], .int .i64 0]) ?_ rfl ⟨_, rfl, flies_flat, below4 B2.out (Nat.le_succ _) _ _ _ _⟩
    obtain ⟨e0, e1, e2, e3⟩ := res4 F2.out (.int .i64 0) (.int .i64 0) (.slice none 0 0) (.slice none 0 0)
    simp [results, Try.results11, go_sem, e0, e1, e2, e3]
  · rw [if_neg hc] at hk
    subst hk
    have hc' : 0 < c := by omega
    go_enter Try.func11, Try.ntmps11
    go_wp2_with fail
    refine (HCK.out _ B0.out).mono ?_
    rintro e w2 ⟨rfl, hb2⟩
    have B2 := Lib.hid (B0.out.trans (hb2.mono B0.out.size))
    have F2 := Lib.hid (F0.out.below hb2 (by simp))
    have d0 : w2.cell? ⟨w.heap.size, 0, none⟩ = some (.int .i64 c) := (hb2.cell (p := ⟨w.heap.size, 0, none⟩) (by simp; omega)).trans l0
    have d1 : w2.cell? ⟨w.heap.size, 1, none⟩ = some (.slice a 0 cap) := (hb2.cell (p := ⟨w.heap.size, 1, none⟩) (by simp; omega)).trans l1
    clear hb2 l0 l1
    obtain ⟨r0, r1, r2, r3, rf⟩ := F2.out
    go_wp2_with fail
    clear r0 r1 r2 r3 rf d0 d1
    refine bodyPost_ret (v := .tuple #[.agg #[.int .i64 1, .int .i64 0, .slice none 0 0, .slice none 0 0], .int .i64 0]) ?_ rfl ⟨_, rfl, flies_flat, below4 B2.out (Nat.le_succ _) _ _ _ _⟩
    obtain ⟨e0, e1, e2, e3⟩ := res4 F2.out (.int .i64 1) (.int .i64 0) (.slice none 0 0) (.slice none 0 0)
    simp [results, Try.results11, go_sem, e0, e1, e2, e3]

/-- Within the document's Literal: its form, the result, the form that it makes. -/
structure LitSt (w W : World) (c u : Int) (a : Option Addr) (n cap Mb : Nat) (v : Value) (r : List (Int × Int)) : Prop where
  row : Row (Mb + 1) r v W
  l0 : W.cell? ⟨w.heap.size, 0, none⟩ = some (.int .i64 c)
  l1 : W.cell? ⟨w.heap.size, 1, none⟩ = some (.slice a n cap)
  fb : FB W (w.heap.size + 1)
  m0 : W.cell? ⟨Mb, 0, none⟩ = some (.int .i64 u)
  m1 : W.cell? ⟨Mb, 1, none⟩ = some v
  mf : ∀ o, W.frozen? ⟨Mb, o, none⟩ = false
  lt : w.heap.size + 1 < Mb
  mz : Mb < W.heap.size
  bel : Below w.heap.size w W
theorem LitSt.start {w w1 : World} {c u : Int} {a : Option Addr} {n cap : Nat} (hb : Below w.heap.size w w1) (hz : w.heap.size + 1 < w1.heap.size) (p0 : w1.cell? ⟨w.heap.size, 0, none⟩ = some (.int .i64 c)) (p1 : w1.cell? ⟨w.heap.size, 1, none⟩ = some (.slice a n cap)) (hf : FB w1 (w.heap.size + 1)) :
    LitSt w (w1.alloc (.cells #[.int .i64 u, .slice none 0 0] 24)) c u a n cap w1.heap.size (.slice none 0 0) [] := by
  have hba : Below w1.heap.size w1 (w1.alloc (.cells #[.int .i64 u, .slice none 0 0] 24)) := (Below.refl _ w1).alloc (Nat.le_refl _) _
  have hn := heap_alloc_new w1 (.cells #[.int .i64 u, .slice none 0 0] 24)
  exact ⟨World.ownsRow_nil _ _ _ _, (hba.cell (p := ⟨w.heap.size, 0, none⟩) (by show w.heap.size < _; omega)).trans p0, (hba.cell (p := ⟨w.heap.size, 1, none⟩) (by show w.heap.size < _; omega)).trans p1, hf.below hba hz,
    by rw [cell_of_row _ _ _ _ _ _ hn]; rfl, by rw [cell_of_row _ _ _ _ _ _ hn]; rfl, fun o => frozen_of_row _ _ _ _ _ hn, hz, by simp, hb.trans (hba.mono hb.size)⟩
theorem LitSt.below {w W w6 w5 : World} {c u : Int} {a : Option Addr} {n cap Mb : Nat} {v : Value} {r : List (Int × Int)} (h : LitSt w W c u a n cap Mb v r) (hb5 : Below (Mb + 1) W w5) (hg : w5.grownBy w6 v.ownBlock) : Below (Mb + 1) W w6 :=
  hb5.grown hg (Nat.le_trans h.mz hb5.size) (fun j hj => (World.ownsRow.lt h.row j hj).1)
theorem LitSt.far {w W w6 w5 : World} {c u : Int} {a : Option Addr} {n cap Mb : Nat} {v : Value} {r : List (Int × Int)} (h : LitSt w W c u a n cap Mb v r) (hb5 : Below (Mb + 1) W w5) (hg : w5.grownBy w6 v.ownBlock) :
    w6.cell? ⟨Mb, 1, none⟩ = some v ∧ ∀ o, w6.frozen? ⟨Mb, o, none⟩ = false := by
  have hb6 := h.below hb5 hg
  exact ⟨(hb6.cell (p := ⟨Mb, 1, none⟩) (Nat.lt_succ_self _)).trans h.m1, fun o => (hb6.frozen (p := ⟨Mb, o, none⟩) (Nat.lt_succ_self _)).trans (h.mf o)⟩
theorem LitSt.step {w W w6 w5 : World} {c u : Int} {a : Option Addr} {n cap Mb : Nat} {v v6 : Value} {r r6 : List (Int × Int)} (h : LitSt w W c u a n cap Mb v r) (hb5 : Below (Mb + 1) W w5) (hg : w5.grownBy w6 v.ownBlock) (hr : Row (Mb + 1) r6 v6 w6) :
    LitSt w (w6.setCell ⟨Mb, 1, none⟩ v6) c u a n cap Mb v6 r6 := by
  have hb6 := h.below hb5 hg
  have hlt := h.lt
  have hz6 : Mb < w6.heap.size := Nat.lt_of_lt_of_le h.mz hb6.size
  have k : w6.grownBy (w6.setCell ⟨Mb, 1, none⟩ v6) (some Mb) := ⟨rfl, rfl, rfl, Nat.le_of_eq (World.size_setCell _ _ _).symm, fun q _ hq => Below.heap_setCell _ _ _ _ (fun e => hq (by rw [e]))⟩
  have hc : ∀ b o, b < Mb → (w6.setCell ⟨Mb, 1, none⟩ v6).cell? ⟨b, o, none⟩ = W.cell? ⟨b, o, none⟩ := fun b o hb => by
    rw [World.cell?_setCell_other _ _ _ _ (by simp <;> omega)]
    exact hb6.cell (p := ⟨b, o, none⟩) (by show b < _; omega)
  have hf : ∀ b o, b ≤ Mb → (w6.setCell ⟨Mb, 1, none⟩ v6).frozen? ⟨b, o, none⟩ = W.frozen? ⟨b, o, none⟩ := fun b o hb => (World.frozen?_setCell _ _ _ _).trans (hb6.frozen (p := ⟨b, o, none⟩) (by show b < _; omega))
  refine ⟨World.ownsRow.kept hr k (.inr (fun e => ?_)), (hc _ _ (by omega)).trans h.l0, (hc _ _ (by omega)).trans h.l1, ⟨(hc _ _ hlt).trans h.fb.r0, (hc _ _ hlt).trans h.fb.r1, (hc _ _ hlt).trans h.fb.r2, (hc _ _ hlt).trans h.fb.r3, fun o => (hf _ o (by omega)).trans (h.fb.fz o)⟩, ?_, ?_, fun o => (hf _ o (Nat.le_refl _)).trans (h.mf o), hlt, by rw [World.size_setCell]; exact hz6, (h.bel.trans (hb6.mono (by omega))).setCell (p := ⟨Mb, 1, none⟩) (by show _ ≤ Mb; omega) _⟩
  · have := (World.ownsRow.lt hr _ e).1; omega
  · rw [World.cell?_setCell_other _ _ _ _ (by simp)]
    exact (hb6.cell (p := ⟨Mb, 0, none⟩) (Nat.lt_succ_self _)).trans h.m0
  · exact World.cell?_setCell_same _ _ _ (h.far hb5 hg).1
end Go.Proofs.Ytknagcednppokaa
