/- formula.Vars: the variables of a formula, each once, in their order. -/
import Derived.Test.YtinineipfleoiaaFrmV
import Derived.Test.YtinineipfleoiaaShelf
import Derived.Sort.OwnSortedInts
import Derived.Lib.OwnBridge
namespace Go.Proofs.Ytinineipfleoiaa
open Go.RowKit Go.Sort

def srt (zs : List Int) : List Int := zs.mergeSort fun x y => decide (x ≤ y)
theorem srt_len (zs : List Int) : (srt zs).length = zs.length := List.length_mergeSort zs
theorem grow_below {B : Nat} {w : World} {g n : Nat} {os : Array Obj} (d : Array Int) (hB : B ≤ w.heap.size) (hg : B ≤ g) : Below B w (grow (putRow (Value.int .i64) (Sort.ahead w n) g 0 d) os) :=
  (Below.refl B w).grown (grownBy_sortedI d) hB (fun k hk => by injection hk with hk; omega)

theorem sort_irow {B : Nat} {zs : List Int} {v : Value} {w : World} (h : IRow B zs v w) (hB : B ≤ w.heap.size) (hz : zs.length < 4611686018427387904) :
    Calls Try.prog 33 #[v] w fun e w' => e = .returned (.tuple #[]) ∧ IRow B (srt zs) v w' ∧ Below B w w' := by
  by_cases hv : v = .slice none 0 0
  · subst hv
    rcases h.at with ⟨_, rfl⟩ | ⟨g, cap, e, _⟩
    · refine (Try.slices_Sort_int_none none 0 w).mono ?_
      rintro e w' ⟨rfl, rfl⟩
      exact ⟨rfl, by rw [show srt [] = [] from List.eq_nil_of_length_eq_zero (srt_len [])]; exact h, Below.refl _ _⟩
    · cases e
  · obtain ⟨g, cap, rfl, hg, hgl, hcap, hmax, hlen, hH⟩ := Lib.holds_of_ownsRow (enc := Value.int .i64) h hv
    refine (Try.slices_Sort_int g 0 cap zs w hH hgl hz).mono ?_
    rintro e w' ⟨rfl, n, os, rfl⟩
    obtain ⟨_, ⟨e0, _⟩ | ⟨g', cap', cur, e0, _, hb, h1, h2, h3, _⟩⟩ := h
    · cases e0
    · simp only [Value.slice.injEq, Option.some.injEq, Addr.mk.injEq, and_true, true_and] at e0
      obtain ⟨rfl, rfl⟩ := e0
      refine ⟨rfl, ?_, grow_below _ hB hg⟩
      unfold IRow
      rw [srt_len]
      exact ownsRow_sortedI (srt_len zs) hg hb h1 h2 h3

theorem compact_irow {B : Nat} {zs : List Int} {v : Value} {w : World} (h : IRow B zs v w) (hB : B ≤ w.heap.size) (hz : zs.length ≤ 1048576) :
    Calls Try.prog 34 #[v] w fun e w' => ∃ v', e = .returned v' ∧ IRow B (Lib.compact zs) v' w' ∧ Below B w w' := by
  by_cases hv : v = .slice none 0 0
  · subst hv
    rcases h.at with ⟨_, rfl⟩ | ⟨g, cap, e, _⟩
    · refine (Try.slices_Compact_int_empty none 0 w).mono ?_
      rintro e w' ⟨rfl, rfl⟩
      exact ⟨_, rfl, h, Below.refl _ _⟩
    · cases e
  · obtain ⟨g, cap, rfl, hg, hgl, hcap, hmax, hlen, hH⟩ := Lib.holds_of_ownsRow (enc := Value.int .i64) h hv
    refine (Try.slices_Compact_int g 0 cap zs w hH (by omega) hcap).mono ?_
    rintro e w' ⟨rfl, q, rfl⟩
    have hle := Lib.compact_length_le zs
    refine ⟨_, rfl, ?_, Lib.below_putRow (Below.refl _ _) hg⟩
    have := Lib.ownsRow_putRow (enc := Value.int .i64) (q := q) (k := (Lib.compact zs).length) (ys := Lib.compact zs ++ List.replicate (zs.length - (Lib.compact zs).length) 0) h (by simp; omega) hle
    rw [List.take_left] at this
    exact this

theorem sizTo_vs (n : Nat) (ks : List FT) (h : ∀ i, i < ks.length → (vsF n (ks.getD i default)).length ≤ 64 * siz n (ks.getD i default)) : ∀ k, k ≤ ks.length → (vsTo n ks k).length ≤ 64 * sizTo n ks k
  | 0, _ => by simp [vsTo]
  | k + 1, hk => by
    have := sizTo_vs n ks h k (by omega)
    have := h k (by omega)
    rw [vsTo_succ n ks k (by omega), sizTo_succ n ks k (by omega), List.length_append]
    omega
theorem own_tlen {f : FT} (h : ownF f = true) : f.t.length ≤ 64 := by
  unfold ownF ownV at h
  by_cases h0 : f.kind = 0 ∨ f.kind = 1
  · rw [if_pos h0] at h
    simp at h
    simp [h.1.2]
  · rw [if_neg h0] at h
    by_cases h2 : f.kind = 2 ∨ f.kind = 3
    · rw [if_pos h2] at h
      simp at h
      have := (snd_iff.1 h.1).2.1
      omega
    · rw [if_neg h2] at h
      by_cases h4 : f.kind = 4
      · rw [if_pos h4] at h
        simp at h
        simp [h.1.2]
      · rw [if_neg h4] at h
        split at h
        · simp at h
          simp [h.2]
        · cases h
theorem snd_parts {n : Nat} {f : FT} (h : sndF (n + 1) f = true) : ownF f = true ∧ ∀ i, i < f.ks.length → sndF n (f.ks.getD i default) = true := by
  have : (ownF f && decide (∀ i, i < f.ks.length → sndF n (f.ks.getD i default) = true)) = true := h
  rw [Bool.and_eq_true] at this
  exact ⟨this.1, of_decide_eq_true this.2⟩
theorem vsF_len : ∀ (n : Nat) (f : FT), sndF n f = true → (vsF n f).length ≤ 64 * siz n f
  | 0, _, h => by cases h
  | n + 1, f, h => by
    obtain ⟨hown, hk⟩ := snd_parts h
    have h1 := own_tlen hown
    have h2 := sizTo_vs n f.ks (fun i hi => vsF_len n _ (hk i hi)) f.ks.length (Nat.le_refl _)
    have h3 := tsTo_len f.t f.t.length
    rw [vsF_eq, sizTo_len, List.length_append]
    omega
theorem cc_zero {n : Nat} {f : FT} (h : cc n f = 0) : sndF n f = true ∧ siz n f ≤ 4096 := by
  unfold cc ccV at h
  split at h
  · cases h
  · split at h
    · cases h
    · rename_i h1
      cases hb : sndF n f with
      | true => exact ⟨rfl, by omega⟩
      | false => rw [hb] at h; cases h

/-- What formula.Vars answers. -/
def vU (n : Nat) (f : FT) : List Int := if cc n f = 0 then Lib.compact (srt (vsF n f)) else []
theorem vU_len (n : Nat) (f : FT) : (vU n f).length ≤ 262144 := by
  unfold vU
  split
  · rename_i hc
    have h1 := cc_zero hc
    have h2 := vsF_len _ _ h1.1
    have := Lib.compact_length_le (srt (vsF n f))
    rw [srt_len] at this; omega
  · simp

set_option maxHeartbeats 1600000 in
theorem fvars_any (n : Nat) (f : FT) (cs : List Value) (w : World) (h : FLies w.heap.size w n f cs) :
    Calls Try.prog 19 #[.agg cs.toArray] w fun e w' => ∃ v', e = .returned v' ∧ IRow w.heap.size (vU n f) v' w' ∧ Below w.heap.size w w' := by
  have FL := fun W (hb : Below w.heap.size w W) => (h.below hb).mono hb.size
  cases n with
  | zero => exact h.elim
  | succ n =>
    have h' := h
    obtain ⟨ta, tcap, ka, kcap, rfl, _⟩ := h
    have hs := Lib.hid (fun W hb => fcheck_any (n + 1) f _ W (FL W hb))
    have hv := Lib.hid (fun (hl : (vsF (n + 1) f).length ≤ 1048576) W (hb : Below w.heap.size w W) => vars_any (n + 1) f _ (.slice none 0 0) [] w.heap.size W (h'.below hb) hb.size (IRow.nil _ _) (by simpa using hl))
    have T0 := Lib.hid (box_start w f.kind f.c ta ka f.t.length tcap f.ks.length kcap)
    have hlen : cc (n + 1) f = 0 → (vsF (n + 1) f).length ≤ 262144 := fun hc => by
      have h1 := cc_zero hc
      have h2 := vsF_len _ _ h1.1
      omega
    have hVU : vU (n + 1) f = if cc (n + 1) f = 0 then Lib.compact (srt (vsF (n + 1) f)) else [] := rfl
    rw [hVU]
    clear FL h' hVU
    generalize vsF (n + 1) f = L at hv hlen
    generalize cc (n + 1) f = k at hs hlen
    generalize f.kind = fk at T0 hs hv
    generalize f.c = fc at T0 hs hv
    generalize f.t.length = ft at T0 hs hv
    generalize f.ks.length = fl at T0 hs hv
    have n1 := fun W => Try.neNil W
    have n2' := fun W => Try.neCode k W
    by_cases hk : k = 0
    · subst hk
      have hl := hlen rfl
      have hv0 := Lib.hid (hv.out (by omega))
      simp only [codeV, if_true] at hs
      clear hv n2' hlen
      rw [if_pos rfl]
      go_enter Try.func19, Try.ntmps19
      go_wp2_with fail
      refine (hs.out _ T0.out.bel).mono ?_
      rintro e w1 ⟨rfl, hb1⟩
      have T1 := Lib.hid (T0.out.below hb1 T0.out.lt)
      clear hb1
      obtain ⟨l1, p0, p1, p2, p3, _⟩ := T1.out
      go_wp2_with fail
      refine (hv0.out _ T1.out.bel).mono ?_
      rintro e w2 ⟨v2, rfl, hst⟩
      have R2 : Hid (IRow w.heap.size L v2 w2) := hst.row
      have B2 : Hid (Below w.heap.size w w2) := T1.out.bel.trans (hst.below T1.out.bel.size (fun g hg => by cases hg))
      clear hst l1 p0 p1 p2 p3
      go_wp2_with fail
      refine (sort_irow R2.out B2.out.size (by omega)).mono ?_
      rintro e w3 ⟨rfl, hr3, hb3⟩
      have R3 := Lib.hid hr3
      have B3 := Lib.hid (B2.out.trans hb3)
      clear hr3 hb3 R2
      go_wp2_with fail
      refine (compact_irow R3.out B3.out.size (by rw [srt_len]; omega)).mono ?_
      rintro e w4 ⟨v4, rfl, hr4, hb4⟩
      have B4 := Lib.hid (B3.out.trans hb4)
      clear hb4 R3
      go_wp2_with fail
      go_ret
      exact ⟨_, rfl, hr4, B4.out⟩
    · have e3 : codeV k = .iface 36 (.int .i64 k) := by unfold codeV; rw [if_neg hk]
      rw [if_neg hk]
      rw [e3] at hs
      clear hv e3 n1
      go_enter Try.func19, Try.ntmps19
      go_wp2_with fail
      refine (hs.out _ T0.out.bel).mono ?_
      rintro e w1 ⟨rfl, hb1⟩
      have T1 := Lib.hid (T0.out.below hb1 T0.out.lt)
      clear hb1
      go_wp2_with fail
      go_ret
      exact ⟨_, rfl, IRow.nil _ _, T1.out.bel⟩
end Go.Proofs.Ytinineipfleoiaa
