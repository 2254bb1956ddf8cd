/- cut.sum: the walk. cut.standing: the variables whose sums are not 0, rising. cut.standing: the walk. lin.Value: the value of a form by values. -/
import Derived.Test.YtmjhjacbhflcpaaDoorCl01
import Derived.Test.YtmjhjacbhflcpaaDoorCl03
import Derived.Test.YtmjhjacbhflcpaaDoorShelf
import Derived.Sort.OwnSortedInts
import Derived.Lib.OwnBridge
import Derived.Maps.RangeWalk
import Derived.Maps.AppendAt
set_option linter.unusedVariables false
set_option linter.unusedSimpArgs false
namespace Go.Proofs.YtmjhjacbhflcpaaDoor
open Go.RowKit Go.Maps

theorem Sums.alloc {T : List (Int × Int)} {n B : Nat} {w : World} (h : Sums T n B w) (o : Obj) : Sums T n B (w.alloc o) := by
  obtain ⟨D, h1, h2⟩ := h.ex
  exact ⟨D, h1.alloc _, h2⟩
theorem Sums.more {T T' : List (Int × Int)} {n B : Nat} {w : World} (h : Sums T n B w) (he : ∀ v, coef T v = coef T' v) : Sums T' n B w := by
  obtain ⟨D, h1, h2⟩ := h.ex
  exact ⟨D, h1, fun v => by rw [h2 v, he v]⟩

set_option maxRecDepth 100000 in
set_option maxHeartbeats 4000000 in
theorem csum_any (a : Option Addr) (n cap : Nat) (ls : List (Int × List (Int × Int))) (pa : Option Addr) (pn pcap : Nat) (ps : List (Int × Int)) (w : World) (hn : ls.length = n) (hm : n ≤ 9223372036854775807) (hl : LLies w.heap.size w a ls) (hpn : ps.length = pn) (hp : Lies w.heap.size w pa ps) (hok : partsOk ls ps) :
    Calls Tryd.prog 29 #[.slice a n cap, .slice pa pn pcap] w fun e w' => e = .returned (.tuple #[.int .i64 (cTo ls ps pn), .map (some w.heap.size)]) ∧ Sums (tTo ls ps pn) (tTo ls ps pn).length w.heap.size w' ∧ Below w.heap.size w w' := by
  have hmm := @run_makeMap Tryd.prog
  have HP := Lib.hid hp
  have HL := Lib.hid hl
  have HOK := Lib.hid hok
  have HPN := Lib.hid hpn
  have HN := Lib.hid hn
  have p64 : pn ≤ 64 := by rw [← hpn]; exact hok.1
  clear hp hl hok hpn hn
  go_enter Tryd.func29, Tryd.ntmps29
  go_wp2
  go_loopw [6, 16] (fun c i wr => ∃ (k : Nat), k ≤ pn ∧ i = .int .i64 k ∧ c = .int .i64 (cTo ls ps k) ∧ Hid (Sums (tTo ls ps k) (tTo ls ps k).length w.heap.size wr) ∧ Hid (Below w.heap.size w wr) ∧ Hid (w.heap.size < wr.heap.size)) (fun _ i _ => pn - (intOf i).toNat)
  case atStart => exact ⟨0, Nat.zero_le _, rfl, rfl, ⟨.map [], World.ownsMap_made _ _ _ _, fun v => rfl⟩, (Below.refl _ _).alloc (Nat.le_refl _) _, by show _ < _; simp⟩
  case round =>
    clear hmm
    obtain ⟨k, hk, rfl, rfl, hs, hb, hz⟩ := hrel
    by_cases hlt : k < pn
    · obtain ⟨b, off, rfl, hblt, c1, c2⟩ := (HP.out.below hb.out) k (by rw [HPN.out]; exact hlt)
      obtain ⟨⟨hx0, hx1⟩, hy, hsn⟩ := HOK.out.2 k (by rw [HPN.out]; exact hlt)
      obtain ⟨b2, off2, ta, tcap, rfl, hb2, l0, l1, hll⟩ := HL.out (ps.getD k (0, 0)).1.toNat hx1
      rw [← hb.out.cell (p := ⟨b2, _, none⟩) hb2] at l0 l1
      obtain ⟨q, hq⟩ : ∃ q : Nat, (ps.getD k (0, 0)).1 = q := ⟨_, (Int.toNat_of_nonneg hx0).symm⟩
      have e1 : ls.getD (ps.getD k (0, 0)).1.toNat (0, []) = lineAt ls ps k := rfl
      rw [e1] at l0 l1 hll
      rw [hq] at c1 hx1 l0 l1
      simp only [Int.toNat_natCast] at hx1 l0 l1
      have hqn : q < n := by rw [← HN.out]; exact hx1
      have hc0 := cTo_in HOK.out k (by rw [HPN.out]; omega)
      have hc1 := cTo_in HOK.out (k + 1) (by rw [HPN.out]; omega)
      have ht0 := tTo_in HOK.out k (by rw [HPN.out]; omega)
      have HT1 : Hid (tTo ls ps (k + 1) = tTo ls ps k ++ timesL (ps.getD k (0, 0)).2 (lineAt ls ps k).2) := rfl
      have hce : cTo ls ps (k + 1) = cTo ls ps k + (lineAt ls ps k).1 * (ps.getD k (0, 0)).2 := rfl
      have HTI := Lib.hid ht0
      have HLL := Lib.hid hll
      have HSN := Lib.hid hsn
      have h64 := (snd_iff.1 hsn).2.1
      have HTT := Lib.hid (timesL_in hsn hy)
      clear hx0 hx1 hq e1 hsn hll ht0
      generalize hTe : tTo ls ps (k + 1) = T1 at HT1
      have HTE := Lib.hid hTe
      clear hTe
      generalize hC1 : cTo ls ps (k + 1) = ck1 at hce hc1
      have HC1 := Lib.hid hC1
      clear hC1
      generalize tTo ls ps k = T0 at hs HT1 HTI
      generalize hC0 : cTo ls ps k = ck at hce hc0
      generalize (lineAt ls ps k).1 = C at l0 hce HSN
      generalize (lineAt ls ps k).2 = LT at l1 HT1 HLL HSN HTT h64
      generalize (ps.getD k (0, 0)).2 = y at c2 hy HT1 hce HTT
      have hw1 : IntKind.i64.wrap (C * y) = C * y := IntWalk.i64_in _ (by omega)
      have hw2 : IntKind.i64.wrap (ck + C * y) = ck + C * y := IntWalk.i64_in _ (by omega)
      have S2 := Lib.hid ((hs.out.alloc (.cells #[.int .i64 q, .int .i64 y] 41)).alloc (.cells #[.int .i64 C, .slice ta LT.length tcap] 49))
      have hba := ((Below.refl wr.heap.size wr).alloc (Nat.le_refl _) (.cells #[.int .i64 q, .int .i64 y] 41)).alloc (by simp) (.cells #[.int .i64 C, .slice ta LT.length tcap] 49)
      have B2 := Lib.hid (hb.out.trans (hba.mono (Nat.le_of_lt hz.out)))
      have PY : Hid (wr.heap.size < ((wr.alloc (.cells #[.int .i64 q, .int .i64 y] 41)).alloc (.cells #[.int .i64 C, .slice ta LT.length tcap] 49)).heap.size ∧ ((wr.alloc (.cells #[.int .i64 q, .int .i64 y] 41)).alloc (.cells #[.int .i64 C, .slice ta LT.length tcap] 49)).cell? ⟨wr.heap.size, 1, none⟩ = some (.int .i64 y)) := by
        refine ⟨by simp; omega, ?_⟩
        rw [((Below.refl (wr.alloc (.cells #[.int .i64 q, .int .i64 y] 41)).heap.size (wr.alloc (.cells #[.int .i64 q, .int .i64 y] 41))).alloc (Nat.le_refl _) _).cell (p := ⟨wr.heap.size, 1, none⟩) (by simp)]
        simp
      have hzp := hz.out
      have hb2z : b2 < wr.heap.size := by omega
      have hbp := (Below.refl wr.heap.size wr).alloc (Nat.le_refl _) (.cells #[.int .i64 q, .int .i64 y] 41)
      rw [← hbp.cell (p := ⟨b2, _, none⟩) hb2z] at l0 l1
      clear hba hs hbp
      go_wp2
      clear c1 c2 l0 l1 hw1
      generalize (wr.alloc (.cells #[.int .i64 q, .int .i64 y] 41)).alloc (.cells #[.int .i64 C, .slice ta LT.length tcap] 49) = w2 at S2 B2 PY ⊢
      generalize wr.heap.size = P at hzp PY ⊢
      go_loopw [35] (fun i wr => ∃ (j : Nat), j ≤ LT.length ∧ i = .int .i64 j ∧ Hid (Sums (T0 ++ timesL y (LT.take j)) (T0.length + j) w.heap.size wr) ∧ Hid (Below w.heap.size w wr) ∧ Hid (P < wr.heap.size ∧ wr.cell? ⟨P, 1, none⟩ = some (.int .i64 y))) (fun i _ => LT.length - (intOf i).toNat)
      case atStart => exact ⟨0, Nat.zero_le _, rfl, S2.out.more (fun v => by simp [timesL]), B2, PY⟩
      case round =>
        clear S2 B2 PY
        obtain ⟨j, hj, rfl, hsi, hbi, hpi⟩ := hrel
        by_cases hjt : j < LT.length
        · obtain ⟨b3, off3, rfl, hb3, d1, d2⟩ := (HLL.out.below hbi.out) j hjt
          have hok3 := okAt_in ((snd_iff.1 HSN.out).2.2 j hjt)
          obtain ⟨D, hown, hat0⟩ := hsi.out.ex
          have hmem : ((LT.getD j (0, 0)).1, (LT.getD j (0, 0)).2 * y) ∈ timesL y LT := List.mem_map.2 ⟨LT.getD j (0, 0), by rw [List.getD_eq_getElem?_getD, List.getElem?_eq_getElem hjt]; exact List.getElem_mem hjt, rfl⟩
          have hky := HTT.out _ hmem
          have hlen : (T0 ++ timesL y (LT.take j)).length = T0.length + j := by rw [List.length_append, timesL_len, List.length_take]; omega
          have hci := coef_in (l := T0 ++ timesL y (LT.take j)) (M := 4398046511104) (by omega) (fun m hm => by
            rcases List.mem_append.1 hm with hm | hm
            · exact HTI.out.2 m hm
            · obtain ⟨x, hx, rfl⟩ := List.mem_map.1 hm
              exact HTT.out _ (List.mem_map.2 ⟨x, List.mem_of_mem_take hx, rfl⟩)) (LT.getD j (0, 0)).1
          rw [hlen] at hci
          have hT0l := HTI.out.1
          have hstep : ∀ v, coef (T0 ++ timesL y (LT.take (j + 1))) v = coef (T0 ++ timesL y (LT.take j)) v + (if (LT.getD j (0, 0)).1 = v then (LT.getD j (0, 0)).2 * y else 0) := fun v => by
            rw [coef_append, coef_append, timesL_take hjt, Int.add_assoc]
          have hv0 := hat0 (LT.getD j (0, 0)).1
          have HST := Lib.hid hstep
          have HAT := Lib.hid hat0
          generalize hco : coef (T0 ++ timesL y (LT.take j)) (LT.getD j (0, 0)).1 = co at hci hv0
          have HCO := Lib.hid hco
          clear hstep hat0 hsi hmem hco hlen
          generalize (LT.getD j (0, 0)).1 = v at d1 hok3 hv0 HST HCO
          generalize (LT.getD j (0, 0)).2 = K at d2 hok3 hky HST
          replace hky : -4398046511104 ≤ K * y ∧ K * y ≤ 4398046511104 := hky
          have hw3 : IntKind.i64.wrap (K * y) = K * y := IntWalk.i64_in _ (by omega)
          have hw4 : IntKind.i64.wrap (co + K * y) = co + K * y := IntWalk.i64_in _ (by push_cast at hci; omega)
          have hkey : keyOf Tryd.prog 3 (.int .i64 v) = some (.int .i64 v) := keyOf_int_mk Tryd.underlying3 (WalkArith.wf_i64 (by omega))
          have hpa : (wr.alloc (.cells #[.int .i64 v, .int .i64 K] 46)).cell? ⟨P, 1, none⟩ = some (.int .i64 y) := (((Below.refl wr.heap.size wr).alloc (Nat.le_refl _) _).cell (p := ⟨P, 1, none⟩) hpi.out.1).trans hpi.out.2
          go_wp2_with (first
            | (at_lookup; refine wpList_lookup_own_int _ rfl _ _ 68 rfl 3 3 .i64 Tryd.lawInt Tryd.underlying68 Tryd.underlying3 (Tryd.zeroInt _) w.heap.size (T0.length + j) D rfl (hown.alloc _) _ _ rfl hkey ?_; intro c hat hwc; obtain rfl : c = co := by have h9 := hat.symm.trans hv0; injection h9 with h9; injection h9)
            | (at_mapUpdate; refine wpList_mapUpdate_own _ rfl _ _ _ 68 rfl 3 3 Tryd.lawInt Tryd.underlying68 _ w.heap.size (T0.length + j) D rfl (hown.alloc _) (by unfold maxLen; omega) _ _ _ rfl rfl hkey _ [] (plainElem_int Tryd.underlying3 (WalkArith.wf_i64 (by push_cast at hci; omega))) ?_; intro w1 hown1 hgrow1)
            | go_in)
          have hz1 := hgrow1.size
          have hza : (wr.alloc (.cells #[.int .i64 v, .int .i64 K] 46)).heap.size = wr.heap.size + 1 := by simp
          have hbs := hbi.out.size
          have hq1 : P < w1.heap.size := by have := hpi.out.1; omega
          have hq2 : w.heap.size ≤ (wr.alloc (.cells #[.int .i64 v, .int .i64 K] 46)).heap.size := by omega
          have hq3 : (some P : Option Nat) ≠ some w.heap.size := fun e => by injection e with e; omega
          refine ⟨⟨j + 1, by omega, by go_num, ⟨_, hown1, fun u => ?_⟩, (hbi.out.alloc hbi.out.size _).grown hgrow1 hq2 (fun k hk => by cases hk; exact Nat.le_refl _), hq1, hgrow1.cell hpa hq3⟩, by simp [intOf]; omega⟩
          rw [HST.out u]
          by_cases e : v = u
          · subst e
            rw [if_pos rfl, HCO.out]
            exact atKey_put_same hown.isMap (by exact trivial) _ _
          · rw [if_neg e, Int.add_zero, ← HAT.out u]
            exact atKey_put_other (fun h => e (by injection h with h1 h2; exact h2.symm)) _ _
        · obtain rfl : j = LT.length := by omega
          have S9 : Hid (Sums T1 T1.length w.heap.size wr ∧ Below w.heap.size w wr ∧ w.heap.size < wr.heap.size) := by
            refine ⟨?_, hbi.out, by have := hpi.out.1; omega⟩
            have h1 := hsi.out
            rw [List.take_length, ← HT1.out] at h1
            rw [show T1.length = T0.length + LT.length by rw [HT1.out, List.length_append, timesL_len]]
            exact h1
          go_wp2
          refine ⟨⟨k + 1, by omega, by go_num, by rw [HC1.out, hce], by rw [HTE.out]; exact S9.out.1, S9.out.2.1, S9.out.2.2⟩, by simp [intOf]; omega⟩
    · obtain rfl : k = pn := by omega
      go_wp2
      refine bodyPost_ret (v := .tuple #[.int .i64 (cTo ls ps k), .map (some w.heap.size)]) ?_ rfl ⟨rfl, hs.out, hb.out⟩
      simp [results, Tryd.results29, go_sem]
end Go.Proofs.YtmjhjacbhflcpaaDoor

namespace Go.Proofs.YtmjhjacbhflcpaaDoor
open Go.RowKit Go.Sort Go.Maps

def ints (zs : List Int) : List Value := zs.map (Value.int .i64)
theorem ints_len (zs : List Int) : (ints zs).length = zs.length := by simp [ints]
theorem ints_append (l r : List Int) : ints (l ++ r) = ints l ++ ints r := by simp [ints]
theorem Tryd.infoInt : (Tryd.prog.info? 3).map (fun i => (i.zero, i.size, i.bytes)) = some (some (.int .i64 0), 1, 8) := by kernel_rfl
/-- A list of numbers of the call's own. -/
def IRow (B : Nat) (zs : List Int) (v : Value) (w : World) : Prop := w.ownsRow B 3 1 v zs.length (ints zs)
theorem IRow.at {B : Nat} {zs : List Int} {v : Value} {w : World} (h : IRow B zs v w) : (v = .slice none 0 0 ∧ zs = []) ∨ ∃ g cap, v = .slice (some ⟨g, 0, none⟩) zs.length cap ∧ B ≤ g := by
  rcases h.2 with ⟨h1, h2⟩ | ⟨g, cap, cur, h1, h2, _⟩
  · exact .inl ⟨h1, List.eq_nil_of_length_eq_zero h2⟩
  · exact .inr ⟨g, cap, h1, h2⟩

def srt (zs : List Int) : List Int := zs.mergeSort fun x y => decide (x ≤ y)
theorem srt_len (zs : List Int) : (srt zs).length = zs.length := List.length_mergeSort zs
theorem grow_below {B : Nat} {w : World} {g n : Nat} {os : Array Obj} (d : Array Int) (hB : B ≤ w.heap.size) (hg : B ≤ g) : Below B w (grow (putRow (Value.int .i64) (Sort.ahead w n) g 0 d) os) :=
  (Below.refl B w).grown (grownBy_sortedI d) hB (fun k hk => by injection hk with hk; omega)
theorem sort_irow {B : Nat} {zs : List Int} {v : Value} {w : World} (h : IRow B zs v w) (hB : B ≤ w.heap.size) (hz : zs.length < 4611686018427387904) :
    Calls Tryd.prog 42 #[v] w fun e w' => e = .returned (.tuple #[]) ∧ IRow B (srt zs) v w' ∧ Below B w w' := by
  by_cases hv : v = .slice none 0 0
  · subst hv
    rcases h.at with ⟨_, rfl⟩ | ⟨g, cap, e, _⟩
    · refine (Tryd.slices_Sort_int_none none 0 w).mono ?_
      rintro e w' ⟨rfl, rfl⟩
      exact ⟨rfl, by rw [show srt [] = [] from List.eq_nil_of_length_eq_zero (srt_len [])]; exact h, Below.refl _ _⟩
    · cases e
  · obtain ⟨g, cap, rfl, hg, hgl, hcap, hmax, hlen, hH⟩ := Lib.holds_of_ownsRow (enc := Value.int .i64) h hv
    refine (Tryd.slices_Sort_int g 0 cap zs w hH hgl hz).mono ?_
    rintro e w' ⟨rfl, n, os, rfl⟩
    obtain ⟨_, ⟨e0, _⟩ | ⟨g', cap', cur, e0, _, hb, h1, h2, h3, _⟩⟩ := h
    · cases e0
    · simp only [Value.slice.injEq, Option.some.injEq, Addr.mk.injEq, and_true, true_and] at e0
      obtain ⟨rfl, rfl⟩ := e0
      refine ⟨rfl, ?_, grow_below _ hB hg⟩
      unfold IRow
      rw [srt_len]
      exact ownsRow_sortedI (srt_len zs) hg hb h1 h2 h3

/-- The variables of a sum that rises are the sorted ones of any list of just these. -/
theorem vars_sum {T R : List (Int × Int)} (hR : IsSum T R) {vs : List Int} (hd : vs.Nodup) (hm : ∀ u, u ∈ vs ↔ coef T u ≠ 0) : srt vs = R.map (·.1) := by
  have hmr : ∀ u, u ∈ R.map (·.1) ↔ coef T u ≠ 0 := fun u => by
    rw [← hR.eq u]
    constructor
    · intro h
      obtain ⟨m, hm, rfl⟩ := List.mem_map.1 h
      rw [coef_up hR.up hm]
      exact hR.nz m hm
    · intro h
      by_cases e : u ∈ R.map (·.1)
      · exact e
      · exact absurd (coef_none (fun m hm h2 => e (List.mem_map.2 ⟨m, hm, h2⟩))) h
  have hup : (R.map (·.1)).Pairwise (· < ·) := List.pairwise_map.2 hR.up
  have hp : (srt vs).Perm (R.map (·.1)) := (List.mergeSort_perm _ _).trans ((List.perm_ext_iff_of_nodup hd (hup.imp (fun h => by omega))).2 fun u => by rw [hm u, hmr u])
  have hs : (srt vs).Pairwise (· ≤ ·) := by
    have := List.pairwise_mergeSort (le := fun x y : Int => decide (x ≤ y)) (fun a b c h1 h2 => by simp at *; omega) (fun a b => by simp; omega) vs
    exact this.imp (fun h => by simpa using h)
  exact hp.eq_of_pairwise (fun a b _ _ h1 h2 => by omega) hs (hup.imp (fun h => by omega))
end Go.Proofs.YtmjhjacbhflcpaaDoor

namespace Go.Proofs.YtmjhjacbhflcpaaDoor
open Go.RowKit Go.Sort Go.Maps

theorem one_at (w : World) (x : Value) (t : TypeId) (N : Nat) (hN : w.heap.size = N) : ∀ j u, [x][j]? = some u → (w.alloc (.cells #[x] t)).cell? ((⟨N, 0, none⟩ : Addr).add j) = some u := by
  subst hN
  exact cell_one_new w x t
theorem one_int (x : Int) : ∀ u ∈ [Value.int .i64 x], u.oneCell' = true := by
  intro u hu
  obtain rfl := List.mem_singleton.1 hu
  rfl

set_option maxRecDepth 100000 in
set_option maxHeartbeats 4000000 in
theorem standing_any (T R : List (Int × Int)) (n B : Nat) (w : World) (hs : Sums T n B w) (hR : IsSum T R) (hn : n ≤ 65536) :
    Calls Tryd.prog 30 #[.map (some B)] w fun e w' => ∃ v, e = .returned v ∧ IRow w.heap.size (R.map (·.1)) v w' ∧ Below w.heap.size w w' := by
  obtain ⟨D, hown, hat0⟩ := hs.ex
  obtain ⟨i0, hi, hz0, hz1, hz2⟩ := info_parts Tryd.infoInt
  have HAT := Lib.hid hat0
  have HRS := Lib.hid hR
  have hBz := hown.lt
  clear hs hat0 hR
  go_enter Tryd.func30, Tryd.ntmps30
  go_wp2_with (first | (at_range; refine wpList_range_own _ rfl _ 68 rfl 3 3 Tryd.lawInt Tryd.underlying68 _ B n D rfl hown ?_; intro w0 hrg0 hg0 hs0) | go_in)
  go_frame
  go_loopw [3] (fun s wr => ∃ (left : Lit → Bool) (cnt : Nat) (vs : List Int), wr.ranges Tryd.prog 3 (plainElem Tryd.prog 3) B w.heap.size n D left cnt ∧ Hid (IRow (w.heap.size + 1) vs s wr) ∧ Hid (∀ u : Int, u ∈ vs ↔ coef T u ≠ 0 ∧ left (.int .i64 u) = false) ∧ Hid vs.Nodup ∧ Hid (Below w.heap.size w wr) ∧ Hid (vs.length + cnt ≤ Maps.size D)) (fun _ wr => wr.rangeLeft B w.heap.size)
  case atStart =>
    refine ⟨_, _, [], hrg0, World.ownsRow_nil _ _ _ _, fun u => ?_, List.nodup_nil, ?_, by show 0 + _ ≤ _; omega⟩
    · constructor
      · intro h; cases h
      · rintro ⟨h1, h2⟩
        have h3 := atKey_of_not_has h2 (.lit (.int .i64 0))
        rw [HAT.out u] at h3
        injection h3 with h3
        injection h3 with h3 h4
        exact absurd h4 h1
    · exact (Below.refl _ _).grown hg0 (Nat.le_refl _) (fun k hk => by cases hk)
  case round =>
    obtain ⟨left, cnt, vs, hrg, hrow, hmem, hnd, hb, hvn⟩ := hrel
    have hsn := hown.size_le
    have hvn' := hvn.out
    go_wp2_with (first | (at_next; refine wpList_next_ranges_ii _ rfl _ rfl 3 3 .i64 .i64 Tryd.lawInt Tryd.underlying3 Tryd.underlying3 B w.heap.size n D left cnt rfl hrg ?_ ?_) | go_in)
    · intro hc0 hl0
      have hvs := vars_sum HRS.out hnd.out (fun u => by rw [hmem.out u]; exact ⟨fun h => h.1, fun h => ⟨h, hl0 _⟩⟩)
      have hzr := hrg.lt
      go_wp2_with fail
      refine (sort_irow hrow.out (by omega) (by omega)).mono ?_
      rintro e w2 ⟨rfl, hr2, hb2⟩
      have HR2 := Lib.hid hr2
      have HB2 := Lib.hid (hb.out.trans (hb2.mono (by omega)))
      clear hr2 hb2
      go_wp2_with fail
      go_ret
      refine ⟨_, rfl, ?_, HB2.out⟩
      rw [← hvs]
      exact Joins.ownsRow_le HR2.out (Nat.le_succ _)
    · intro x c w1 cnt1 hwx hwc hlx hat hrg1 hlt hg1 hs1 hen
      have hcx : c = coef T x := by
        have h1 := (hat (.lit (.int .i64 0))).symm.trans (HAT.out x)
        injection h1 with h1
        injection h1
      have hzr := hrg.lt
      have hsk : ∀ u : Int, u ≠ x → (Lit.int .i64 u).sameKey (.int .i64 x) = false := fun u h => sameKey_ne (fun e => h (by injection e))
      have hsx : (Lit.int .i64 x).sameKey (.int .i64 x) = true := WideAt.sameKey_self trivial
      have hrow1 : IRow (w.heap.size + 1) vs u3 w1 := by
        refine World.ownsRow.kept (row := some w.heap.size) hrow.out hg1 ?_
        cases hv : u3.ownBlock with
        | none => exact .inl rfl
        | some g =>
          right
          intro e
          injection e with e
          have := (World.ownsRow.lt hrow.out g hv).1
          omega
      have hb1 : Below w.heap.size w w1 := hb.out.grown hg1 (by omega) (fun k hk => by injection hk with hk; omega)
      by_cases hc0 : c = 0
      · go_wp2
        refine ⟨⟨_, cnt1, vs, hrg1, hrow1, fun u => ?_, hnd.out, hb1, by show _ ≤ _; omega⟩, by rw [hrg1.left_eq, hrg.left_eq]; omega⟩
        rw [hmem.out u]
        by_cases e : u = x
        · subst e
          rw [← hcx, hc0]
          simp
        · rw [hsk u e]
          simp
      · have HRW : Hid (IRow (w.heap.size + 1) vs u3 (w1.alloc (.cells #[.int .i64 x] 3))) := World.ownsRow.alloc hrow1 _
        have hgb : ∀ g, u3.ownBlock = some g → w.heap.size + 1 ≤ g := fun g hg => (World.ownsRow.lt hrow.out g hg).1
        have HS1 := Lib.hid hs1
        clear hs1
        go_wp2_with (at_builtin; refine wpList_append_own_at _ rfl _ _ 71 rfl (w.heap.size + 1) 3 i0 _ 1 8 Tryd.underlying71 hi hz0 hz1 hz2 rfl (by decide) u3 vs.length (ints vs) rfl HRW.out ⟨w1.heap.size, 0, none⟩ 1 1 [.int .i64 x] rfl rfl ?c2 ?c3 ?c4 ?c5 ?c6 ?_)
        case c2 => exact one_at _ _ _ _ (by simp)
        case c3 => exact one_int x
        case c4 => unfold maxLen; omega
        case c5 => omega
        case c6 => have := HS1.out; simp; omega
        intro v2 w2 hown2 hgrow2 _ hat2
        go_wp2_with fail
        have hs9 := HS1.out
        have hza : (w1.alloc (.cells #[.int .i64 x] 3)).heap.size = w1.heap.size + 1 := by simp
        have hrg2 := (hrg1.alloc (.cells #[.int .i64 x] 3)).kept hgrow2 (fun e => by have := hgb B e.symm; omega) (fun e => by have := hgb _ e.symm; omega)
        have hrow2 : IRow (w.heap.size + 1) (vs ++ [x]) v2 w2 := by
          unfold IRow
          rw [List.length_append, ints_append]
          exact hown2
        refine ⟨⟨_, cnt1, vs ++ [x], hrg2, hrow2, fun u => ?_, ?_, (hb1.alloc hb1.size _).grown hgrow2 (by omega) (fun k hk => by have := hgb k hk; omega), by show _ ≤ _; rw [List.length_append]; show vs.length + 1 + cnt1 ≤ _; omega⟩, by rw [hrg2.left_eq, hrg.left_eq]; omega⟩
        · rw [List.mem_append, List.mem_singleton, hmem.out u]
          by_cases e : u = x
          · subst e
            rw [hsx]
            simp
            exact fun h => hc0 (hcx.trans h)
          · rw [hsk u e]
            simp [e]
        · show (vs ++ [x]).Nodup
          refine List.nodup_append.2 ⟨hnd.out, by simp, fun a ha b hb e => ?_⟩
          rw [List.mem_singleton] at hb
          subst hb
          subst e
          have := ((hmem.out _).1 ha).2
          rw [hlx] at this
          cases this
end Go.Proofs.YtmjhjacbhflcpaaDoor

namespace Go.Proofs.YtmjhjacbhflcpaaDoor
open Go.RowKit

/-- The numbers zs lie in memory from a on, in a block below B. -/
def Nums (B : Nat) (w : World) (a : Option Addr) (zs : List Int) : Prop :=
  ∀ i, i < zs.length → ∃ b off, a = some ⟨b, off, none⟩ ∧ b < B ∧ w.cell? ⟨b, off + i, none⟩ = some (.int .i64 (zs.getD i 0))
theorem Nums.mono {B B' : Nat} {w : World} {a : Option Addr} {l : List Int} (h : Nums B w a l) (hb : B ≤ B') : Nums B' w a l := fun i hi => by
  obtain ⟨b, off, ha, hlt, h1⟩ := h i hi
  exact ⟨b, off, ha, Nat.lt_of_lt_of_le hlt hb, h1⟩
theorem Nums.below {B : Nat} {w w' : World} {a : Option Addr} {l : List Int} (h : Nums B w a l) (hb : Below B w w') : Nums B w' a l := fun i hi => by
  obtain ⟨b, off, ha, hlt, h1⟩ := h i hi
  exact ⟨b, off, ha, hlt, by rw [hb.cell (p := ⟨b, _, none⟩) hlt]; exact h1⟩

/-- A variable's value. -/
def valOf (zs : List Int) (v : Int) : Int := if v < zs.length then zs.getD v.toNat 0 else 0

/-- The numbers' own variable: a block that holds the slice. -/
def Held (w : World) (pv : Nat) (a : Option Addr) (n cap : Nat) : Prop := pv < w.heap.size ∧ w.cell? ⟨pv, 0, none⟩ = some (.slice a n cap)

/-- A form's value so far. -/
def sAt (c : Int) (l : List (Int × Int)) (zs : List Int) : Nat → Int
  | 0 => c
  | i + 1 => sAt c l zs i + (l.getD i (0, 0)).2 * valOf zs (l.getD i (0, 0)).1
def near (l : List (Int × Int)) (zs : List Int) (i : Nat) : Bool := wi (valOf zs (l.getD i (0, 0)).1) 16777216

theorem sAt_in (c : Int) (l : List (Int × Int)) (zs : List Int) (hc : -1073741824 ≤ c ∧ c ≤ 1073741824) : ∀ i, i ≤ 64 → (∀ j, j < i → -1073741824 ≤ (l.getD j (0, 0)).2 ∧ (l.getD j (0, 0)).2 ≤ 1073741824) → (∀ j, j < i → near l zs j = true) →
    -(1073741824 + i * 18014398509481984 : Int) ≤ sAt c l zs i ∧ sAt c l zs i ≤ 1073741824 + i * 18014398509481984
  | 0, _, _, _ => by unfold sAt; omega
  | i + 1, hi, hk, hx => by
    have h1 := sAt_in c l zs hc i (by omega) (fun j hj => hk j (by omega)) (fun j hj => hx j (by omega))
    have h2 := hk i (by omega)
    have h3 := hx i (by omega)
    unfold near wi at h3
    have h3 : -16777216 ≤ valOf zs (l.getD i (0, 0)).1 ∧ valOf zs (l.getD i (0, 0)).1 ≤ 16777216 := by simpa using h3
    have h4 : ((l.getD i (0, 0)).2 * valOf zs (l.getD i (0, 0)).1).natAbs ≤ 1073741824 * 16777216 := by
      rw [Int.natAbs_mul]; exact Nat.mul_le_mul (by omega) (by omega)
    unfold sAt
    omega

/-- What the closure has of the world. -/
def VInv (pv q : Nat) (a2 : Option Addr) (n2 cap2 : Nat) (P : Int → Prop) (W : World) : Prop := Held W pv a2 n2 cap2 ∧ ∃ s, P s ∧ Own W q s
theorem VInv.alloc {pv q : Nat} {a2 : Option Addr} {n2 cap2 : Nat} {P : Int → Prop} {W : World} (h : VInv pv q a2 n2 cap2 P W) (o : Obj) : VInv pv q a2 n2 cap2 P (W.alloc o) := by
  obtain ⟨⟨h1, h2⟩, s, hp, ho⟩ := h
  have hb := (Below.refl W.heap.size W).alloc (Nat.le_refl _) o
  exact ⟨⟨Nat.lt_of_lt_of_le h1 hb.size, by rw [hb.cell (p := ⟨pv, 0, none⟩) h1]; exact h2⟩, s, hp, ho.alloc o⟩
theorem Held.below {w w' : World} {pv q : Nat} {a : Option Addr} {n cap : Nat} (h : Held w pv a n cap) (hq : pv < q) (hb : Below q w w') : Held w' pv a n cap :=
  ⟨Nat.lt_of_lt_of_le h.1 hb.size, by rw [hb.cell (p := ⟨pv, 0, none⟩) hq]; exact h.2⟩

end Go.Proofs.YtmjhjacbhflcpaaDoor
