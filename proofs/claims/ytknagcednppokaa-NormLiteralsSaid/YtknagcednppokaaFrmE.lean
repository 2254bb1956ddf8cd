/- The document's own depth and size; the statements' own weighing. -/
import Derived.Test.YtknagcednppokaaFrmD
namespace Go.Proofs.Ytknagcednppokaa
open Go.RowKit

theorem top_snoc (l : List Nat) (x : Nat) : top (l ++ [x]) = max (top l) x := by
  induction l with
  | nil => show max x 0 = max 0 x; omega
  | cons a r ih =>
    have e1 : top (a :: (r ++ [x])) = max a (top (r ++ [x])) := rfl
    have e2 : top (a :: r) = max a (top r) := rfl
    rw [List.cons_append, e1, e2, ih]; omega
def topTo (n : Nat) (ks : List FT) (i : Nat) : Nat := top ((ks.take i).map (dep n))
theorem topTo_succ (n : Nat) (ks : List FT) (i : Nat) (h : i < ks.length) : topTo n ks (i + 1) = max (topTo n ks i) (dep n (ks.getD i default)) := by
  unfold topTo
  rw [List.take_succ_eq_append_getElem h, List.map_append, List.map_cons, List.map_nil, top_snoc]
  simp [List.getD_eq_getElem?_getD, h]
theorem topTo_len (n : Nat) (f : FT) : dep (n + 1) f = 1 + topTo n f.ks f.ks.length := by
  show 1 + top _ = _
  unfold topTo; rw [List.take_length]
def minI (s : Nat) (m : Int) : Int := if (s : Int) ≤ m then s else m

set_option maxRecDepth 100000 in
set_option maxHeartbeats 800000 in
theorem rdepth_any : ∀ (n : Nat) (f : FT) (cs : List Value) (m : Int) (w : World), 0 ≤ m → m ≤ 1048576 → FLies w.heap.size w n f cs →
    Calls Try.prog 41 #[.agg cs.toArray, .int .i64 m] w fun e w' => e = .returned (.int .i64 (cnt (dep n f) m)) ∧ Below w.heap.size w w'
  | 0, _, _, _, _, _, _, h => h.elim
  | n + 1, f, cs, m, w, h0, h1, h => by
    have IH := rdepth_any n
    obtain ⟨ta, tcap, ka, kcap, rfl, _, _, hk4, hks⟩ := h
    have HI := Lib.hid IH
    have HK := Lib.hid hks
    have HLN := Lib.hid (topTo_len n f)
    have HST := Lib.hid (topTo_succ n f.ks)
    have HB0 : Hid (Below (w.heap.size + 1) (w.alloc (.cells #[.int .i64 f.kind, .int .i64 f.c, .slice ta f.t.length tcap, .slice ka f.ks.length kcap] 28)) (w.alloc (.cells #[.int .i64 f.kind, .int .i64 f.c, .slice ta f.t.length tcap, .slice ka f.ks.length kcap] 28))) := Below.refl _ _
    have S0 : Hid ((0 : Int) = minI (topTo n f.ks 0) m) := by
      show _ = _
      unfold minI topTo
      simp [top]
      omega
    have HZ : Hid (m = 0 → cnt (dep (n + 1) f) m = 1) := fun e => by
      have := dep_zero n f
      unfold cnt
      rw [if_neg (by omega), e]; rfl
    generalize hr : cnt (dep (n + 1) f) m = r
    have HR := Lib.hid hr
    rw [hr] at HZ
    clear IH hks hr
    generalize f.kind = fk at HB0
    generalize f.c = fc at HB0
    generalize f.t.length = ft at HB0
    generalize hl : f.ks.length = len at HB0 HK hk4 HST HLN
    clear hl
    go_enter Try.func41, Try.ntmps41
    go_wp2
    go_loopw [5, 6] (fun s i wr => ∃ (k : Nat) (v : Int), k ≤ len ∧ i = .int .i64 k ∧ s = .int .i64 v ∧ 0 ≤ v ∧ v ≤ m ∧ Hid (v = minI (topTo n f.ks k) m) ∧ Below (w.heap.size + 1) (w.alloc (.cells #[.int .i64 fk, .int .i64 fc, .slice ta ft tcap, .slice ka len kcap] 28)) wr) (fun _ i _ => len - (intOf i).toNat)
    case atStart => exact ⟨0, 0, Nat.zero_le _, rfl, rfl, by omega, by omega, S0, HB0.out⟩
    case round =>
      obtain ⟨k, v, hk, rfl, rfl, hv1, hv2, hv, hbx⟩ := hrel
      have hb : Below w.heap.size w wr := ((Below.refl _ w).alloc (Nat.le_refl _) _).trans (hbx.mono (by omega))
      have bz : w.heap.size < wr.heap.size := by have := hbx.size; simp at this; omega
      have q3 : wr.cell? ⟨w.heap.size, 3, none⟩ = some (.slice ka len kcap) := by rw [hbx.cell (p := ⟨w.heap.size, 3, none⟩) (by simp)]; simp
      by_cases hm : m = 0
      · have hr : r = v + 1 := by rw [HZ.out hm]; omega
        subst hr
        clear hv HI HK HZ
        have hm2 : decide (0 < m) = false := by simp; omega
        by_cases hlt : k < len
        · go_wp2_with fail
          go_ret
          exact ⟨rfl, hb⟩
        · go_wp2_with fail
          go_ret
          exact ⟨rfl, hb⟩
      · by_cases hlt : k < len
        · obtain ⟨b, off, c0, c1, c2, c3, rfl, hblt, g0, g1, g2, g3, hf⟩ := HK.out k hlt
          rw [← hb.cell (p := ⟨b, _, none⟩) hblt] at g0 g1 g2 g3
          obtain ⟨ck, cc, cta, ctn, ctcap, cka, ckn, ckcap, rfl, rfl, rfl, rfl⟩ := hf.form
          have hih := HI.out (f.ks.getD k default) _ (m - 1) wr (by omega) (by omega) ((hf.below hb).mono hb.size)
          have hs := HST.out k hlt
          have hu : 0 ≤ cnt (dep n (f.ks.getD k default)) (m - 1) ∧ cnt (dep n (f.ks.getD k default)) (m - 1) ≤ m := by unfold cnt; split <;> omega
          have hv3 : Hid ((if v < cnt (dep n (f.ks.getD k default)) (m - 1) then cnt (dep n (f.ks.getD k default)) (m - 1) else v) = minI (topTo n f.ks (k + 1)) m) := by
            have h2 := hv.out
            show _ = _
            rw [hs]
            unfold cnt minI at *
            split at h2 <;> split <;> split <;> (try split) <;> (try split) <;> omega
          generalize cnt (dep n (f.ks.getD k default)) (m - 1) = u at hih hv3 hu
          have hm2 : 0 < m := by omega
          clear hs hf hv HZ
          go_wp2_with fail
          refine hih.mono ?_
          rintro e w1 ⟨rfl, hb1⟩
          have HB1 := Lib.hid (hbx.trans (hb1.mono (by omega)))
          clear g0 g1 g2 g3 hih hb1 hb hbx q3
          by_cases hvu : v < u
          · have hv4 : Hid (u = minI (topTo n f.ks (k + 1)) m) := hv3.out.symm.trans (by rw [if_pos hvu]) |>.symm
            clear hv3
            go_wp2_with fail
            go_roundw
            case rel => exact ⟨k + 1, u, by omega, by go_num, rfl, by omega, by omega, hv4, HB1.out⟩
            case measure => simp [intOf]; omega
          · have hv4 : Hid (v = minI (topTo n f.ks (k + 1)) m) := hv3.out.symm.trans (by rw [if_neg hvu]) |>.symm
            clear hv3
            go_wp2_with fail
            go_roundw
            case rel => exact ⟨k + 1, v, by omega, by go_num, rfl, by omega, by omega, hv4, HB1.out⟩
            case measure => simp [intOf]; omega
        · have hr : r = v + 1 := by
            have h1 := HLN.out
            have h2 := hv.out
            obtain rfl : k = len := by omega
            rw [← HR.out, h1]
            unfold cnt minI at *
            split at h2 <;> split <;> omega
          subst hr
          clear hv HI HK HZ
          go_wp2_with fail
          go_ret
          exact ⟨rfl, hb⟩

/-- The document's Size: what is left. -/
def szV (s : Nat) (m : Int) : Int := if (s : Int) ≤ m then m - s else -1
set_option maxRecDepth 100000 in
set_option maxHeartbeats 800000 in
theorem rsize_any : ∀ (n : Nat) (f : FT) (cs : List Value) (m : Int) (w : World), 0 ≤ m → m ≤ 1048576 → FLies w.heap.size w n f cs →
    Calls Try.prog 42 #[.agg cs.toArray, .int .i64 m] w fun e w' => e = .returned (.int .i64 (szV (siz n f) m)) ∧ Below w.heap.size w w'
  | 0, _, _, _, _, _, _, h => h.elim
  | n + 1, f, cs, m, w, h0, h1, h => by
    have IH := rsize_any n
    obtain ⟨ta, tcap, ka, kcap, rfl, _, _, hk4, hks⟩ := h
    have HI := Lib.hid IH
    have HK := Lib.hid hks
    have HLE := Lib.hid (sizTo_le n f)
    have HLN := Lib.hid (sizTo_len n f)
    have HST := Lib.hid (sizTo_succ n f.ks)
    have HB0 : Hid (Below (w.heap.size + 1) (w.alloc (.cells #[.int .i64 f.kind, .int .i64 f.c, .slice ta f.t.length tcap, .slice ka f.ks.length kcap] 28)) (w.alloc (.cells #[.int .i64 f.kind, .int .i64 f.c, .slice ta f.t.length tcap, .slice ka f.ks.length kcap] 28))) := Below.refl _ _
    have S0 : Hid (m - 1 = szV (1 + sizTo n f.ks 0) m) := by
      show _ = _
      unfold szV
      rw [sizTo_zero]
      split <;> omega
    generalize hr : szV (siz (n + 1) f) m = r
    have HR := Lib.hid hr
    clear IH hks hr
    generalize f.kind = fk at HB0
    generalize f.c = fc at HB0
    generalize f.t.length = ft at HB0
    generalize hl : f.ks.length = len at HB0 HK hk4 HST HLN
    clear hl
    go_enter Try.func42, Try.ntmps42
    go_wp2
    go_loopw [1, 5] (fun s i wr => ∃ (k : Nat) (v : Int), k ≤ len ∧ i = .int .i64 k ∧ s = .int .i64 v ∧ -1 ≤ v ∧ v ≤ m ∧ Hid (v = szV (1 + sizTo n f.ks k) m) ∧ Below (w.heap.size + 1) (w.alloc (.cells #[.int .i64 fk, .int .i64 fc, .slice ta ft tcap, .slice ka len kcap] 28)) wr) (fun _ i _ => len - (intOf i).toNat)
    case atStart => exact ⟨0, m - 1, Nat.zero_le _, rfl, rfl, by omega, by omega, S0, HB0.out⟩
    case round =>
      obtain ⟨k, v, hk, rfl, rfl, hv1, hv2, hv, hbx⟩ := hrel
      have hb : Below w.heap.size w wr := ((Below.refl _ w).alloc (Nat.le_refl _) _).trans (hbx.mono (by omega))
      have bz : w.heap.size < wr.heap.size := by have := hbx.size; simp at this; omega
      have q3 : wr.cell? ⟨w.heap.size, 3, none⟩ = some (.slice ka len kcap) := by rw [hbx.cell (p := ⟨w.heap.size, 3, none⟩) (by simp)]; simp
      by_cases hlt : k < len
      · by_cases hvn : v < 0
        · have hr : r = v := by
            have h1 := HLE.out k
            have h2 := hv.out
            rw [← HR.out]
            unfold szV at h2 ⊢
            split at h2 <;> split <;> omega
          subst hr
          clear hv HI HK
          go_wp2_with fail
          go_ret
          exact ⟨rfl, hb⟩
        · obtain ⟨b, off, c0, c1, c2, c3, rfl, hblt, g0, g1, g2, g3, hf⟩ := HK.out k hlt
          rw [← hb.cell (p := ⟨b, _, none⟩) hblt] at g0 g1 g2 g3
          obtain ⟨ck, cc, cta, ctn, ctcap, cka, ckn, ckcap, rfl, rfl, rfl, rfl⟩ := hf.form
          have hih := HI.out (f.ks.getD k default) _ v wr (by omega) (by omega) ((hf.below hb).mono hb.size)
          have hs := HST.out k hlt
          have hu : -1 ≤ szV (siz n (f.ks.getD k default)) v ∧ szV (siz n (f.ks.getD k default)) v ≤ m := by unfold szV; split <;> omega
          have hv3 : Hid (szV (siz n (f.ks.getD k default)) v = szV (1 + sizTo n f.ks (k + 1)) m) := by
            have h2 := hv.out
            show _ = _
            unfold szV at h2 ⊢
            rw [hs]
            split at h2 <;> split <;> split <;> omega
          generalize szV (siz n (f.ks.getD k default)) v = u at hih hv3 hu
          clear hs hf hv
          go_wp2_with fail
          refine hih.mono ?_
          rintro e w1 ⟨rfl, hb1⟩
          have HB1 := Lib.hid (hbx.trans (hb1.mono (by omega)))
          clear g0 g1 g2 g3 hih hb1 hb hbx q3
          go_wp2
          go_roundw
          case rel => exact ⟨k + 1, u, by omega, by go_num, rfl, by omega, by omega, hv3, HB1.out⟩
          case measure => simp [intOf]; omega
      · have hr : r = v := by
          have h1 := HLN.out
          have h2 := hv.out
          obtain rfl : k = len := by omega
          rw [← HR.out, h2, h1]
        subst hr
        clear hv HI HK
        go_wp2_with fail
        go_ret
        exact ⟨rfl, hb⟩
end Go.Proofs.Ytknagcednppokaa
