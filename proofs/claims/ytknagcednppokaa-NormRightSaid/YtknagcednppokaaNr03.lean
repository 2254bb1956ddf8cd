/- formula.deeper, formula.count. norm.deeper, norm.count. The contracts of lin.Gcd, and of the document's own Gcd. -/
import Derived.Test.YtknagcednppokaaNr01
import Derived.Test.YtknagcednppokaaNr02
set_option linter.unusedVariables false
set_option linter.unusedSimpArgs false
namespace Go.Proofs.Ytknagcednppokaa
open Go.RowKit

theorem dep_int {n : Nat} {m : Int} {f : FT} (h0 : 0 ≤ m) (h1 : m ≠ 0) : m < (dep (n + 1) f : Int) ↔ ∃ i, i < f.ks.length ∧ m - 1 < (dep n (f.ks.getD i default) : Int) := by
  obtain ⟨k, rfl⟩ : ∃ k : Nat, m = (k + 1 : Nat) := ⟨(m - 1).toNat, by omega⟩
  have := dep_succ (n := n) (m := k) (f := f)
  constructor
  · intro h
    obtain ⟨i, hi, hd⟩ := this.1 (by omega)
    exact ⟨i, hi, by omega⟩
  · rintro ⟨i, hi, hd⟩
    have := this.2 ⟨i, hi, by omega⟩
    omega

set_option maxHeartbeats 800000 in
theorem deeper_any : ∀ (n : Nat) (f : FT) (cs : List Value) (m : Int) (w : World), 0 ≤ m → m ≤ 1048576 → FLies w.heap.size w n f cs →
    Calls Try.prog 54 #[.agg cs.toArray, .int .i64 m] w fun e w' => e = .returned (.bool (decide (m < (dep n f : Int)))) ∧ Below w.heap.size w w'
  | 0, _, _, _, _, _, _, h => h.elim
  | n + 1, f, cs, m, w, h0, h1, h => by
    have IH := deeper_any n
    obtain ⟨ta, tcap, ka, kcap, rfl, _, _, hk4, hks⟩ := h
    have HB0 : Hid (Below w.heap.size w (w.alloc (.cells #[.int .i64 f.kind, .int .i64 f.c, .slice ta f.t.length tcap, .slice ka f.ks.length kcap] 28))) := (Below.refl _ w).alloc (Nat.le_refl _) _
    by_cases hm : m = 0
    · subst hm
      have hd : decide ((0 : Int) < (dep (n + 1) f : Int)) = true := by have := dep_zero n f; simp; omega
      rw [hd]
      clear IH hks hd
      go_enter Try.func54, Try.ntmps54
      go_wp2
      go_ret
      exact ⟨rfl, HB0.out⟩
    · have HD := Lib.hid (dep_int (n := n) (f := f) h0 hm)
      have HI := Lib.hid IH
      have HK := Lib.hid hks
      have hme : (m == 0) = false := by simpa using hm
      generalize hr : decide (m < (dep (n + 1) f : Int)) = r
      have HR := Lib.hid hr
      clear IH hks hr
      generalize f.kind = fk at HB0
      generalize f.c = fc at HB0
      generalize f.t.length = ft at HB0
      generalize hl : f.ks.length = len at HB0 HK HD hk4
      clear hl
      go_enter Try.func54, Try.ntmps54
      go_wp2
      go_loopw [12] (fun i wr => ∃ k : Nat, k ≤ len ∧ i = .int .i64 k ∧ Hid (∀ j, j < k → (dep n (f.ks.getD j default) : Int) ≤ m - 1) ∧ Below w.heap.size w wr) (fun i _ => len - (intOf i).toNat)
      case atStart => exact ⟨0, Nat.zero_le _, rfl, fun j hj => absurd hj (Nat.not_lt_zero j), HB0.out⟩
      case round =>
        obtain ⟨k, hk, rfl, hno, hb⟩ := hrel
        by_cases hlt : k < len
        · obtain ⟨b, off, c0, c1, c2, c3, rfl, hblt, g0, g1, g2, g3, hf⟩ := HK.out k hlt
          rw [← hb.cell (p := ⟨b, _, none⟩) hblt] at g0 g1 g2 g3
          obtain ⟨ck, cc, cta, ctn, ctcap, cka, ckn, ckcap, rfl, rfl, rfl, rfl⟩ := hf.form
          have hb2 := hb.alloc hb.size (.cells #[.int .i64 ck, .int .i64 cc, .slice cta ctn ctcap, .slice cka ckn ckcap] 28)
          have hih := HI.out (f.ks.getD k default) _ (m - 1) _ (by omega) (by omega) ((hf.below hb2).mono hb2.size)
          by_cases hd : m - 1 < (dep n (f.ks.getD k default) : Int)
          · have hr : r = true := by rw [← HR.out]; exact decide_eq_true (HD.out.2 ⟨k, hlt, hd⟩)
            rw [decide_eq_true hd] at hih
            subst hr
            clear hd hf hno
            go_wp2_with fail
            refine hih.mono ?_
            rintro e w1 ⟨rfl, hb1⟩
            have HB1 := Lib.hid (hb2.trans (hb1.mono hb2.size))
            clear g0 g1 g2 g3 hih hb1 hb2
            go_wp2
            go_ret
            exact ⟨rfl, HB1.out⟩
          · rw [decide_eq_false hd] at hih
            have hno2 : Hid (∀ j, j < k + 1 → (dep n (f.ks.getD j default) : Int) ≤ m - 1) := fun j hj => by
              by_cases ej : j = k
              · rw [ej]; omega
              · exact hno.out j (by omega)
            clear hd hf hno
            go_wp2_with fail
            refine hih.mono ?_
            rintro e w1 ⟨rfl, hb1⟩
            have HB1 := Lib.hid (hb2.trans (hb1.mono hb2.size))
            clear g0 g1 g2 g3 hih hb1 hb2
            go_wp2
            go_roundw
            case rel => exact ⟨k + 1, by omega, by go_num, hno2, HB1.out⟩
            case measure => simp [intOf]; omega
        · have hr : r = false := by
            rw [← HR.out]
            refine decide_eq_false fun h => ?_
            obtain ⟨i, hi, hd⟩ := HD.out.1 h
            have := hno.out i (by omega); omega
          subst hr
          clear hno
          go_wp2
          go_ret
          exact ⟨rfl, hb⟩
theorem sizTo_le (n : Nat) (f : FT) (k : Nat) : 1 + sizTo n f.ks k ≤ siz (n + 1) f := by
  rw [sizTo_len]
  by_cases h : k ≤ f.ks.length
  · have := sizTo_mono n f.ks h; omega
  · have := sizTo_mono n f.ks (show f.ks.length ≤ k by omega)
    have e : sizTo n f.ks k = sizTo n f.ks f.ks.length := by
      unfold sizTo; rw [List.take_of_length_le (by omega), List.take_length]
    omega

/-- formula.count: the size, or one more than the bound. -/
def cnt (s : Nat) (m : Int) : Int := if (s : Int) ≤ m then s else m + 1

set_option maxRecDepth 100000 in
set_option maxHeartbeats 800000 in
theorem count_any : ∀ (n : Nat) (f : FT) (cs : List Value) (m : Int) (w : World), 0 ≤ m → m ≤ 1048576 → FLies w.heap.size w n f cs →
    Calls Try.prog 55 #[.agg cs.toArray, .int .i64 m] w fun e w' => e = .returned (.int .i64 (cnt (siz n f) m)) ∧ Below w.heap.size w w'
  | 0, _, _, _, _, _, _, h => h.elim
  | n + 1, f, cs, m, w, h0, h1, h => by
    have IH := count_any n
    obtain ⟨ta, tcap, ka, kcap, rfl, _, _, hk4, hks⟩ := h
    have HB0 : Hid (Below w.heap.size w (w.alloc (.cells #[.int .i64 f.kind, .int .i64 f.c, .slice ta f.t.length tcap, .slice ka f.ks.length kcap] 28))) := (Below.refl _ w).alloc (Nat.le_refl _) _
    have HI := Lib.hid IH
    have HK := Lib.hid hks
    have HLE := Lib.hid (sizTo_le n f)
    have HLN := Lib.hid (sizTo_len n f)
    have HST := Lib.hid (sizTo_succ n f.ks)
    have S0 : Hid ((1 : Int) = cnt (1 + sizTo n f.ks 0) m) := by
      show _ = _
      unfold cnt
      rw [sizTo_zero]
      split <;> omega
    generalize hr : cnt (siz (n + 1) f) m = r
    have HR := Lib.hid hr
    clear IH hks hr
    generalize f.kind = fk at HB0
    generalize f.c = fc at HB0
    generalize f.t.length = ft at HB0
    generalize hl : f.ks.length = len at HB0 HK hk4 HST HLN
    clear hl
    go_enter Try.func55, Try.ntmps55
    go_wp2
    go_loopw [5, 11] (fun s i wr => ∃ (k : Nat) (v : Int), k ≤ len ∧ i = .int .i64 k ∧ s = .int .i64 v ∧ 1 ≤ v ∧ v ≤ m + 1 ∧ Hid (v = cnt (1 + sizTo n f.ks k) m) ∧ Below w.heap.size w wr) (fun _ i _ => len - (intOf i).toNat)
    case atStart => exact ⟨0, 1, Nat.zero_le _, rfl, rfl, by omega, by omega, S0, HB0.out⟩
    case round =>
      obtain ⟨k, v, hk, rfl, rfl, hv1, hv2, hv, hb⟩ := hrel
      by_cases hlt : k < len
      · obtain ⟨b, off, c0, c1, c2, c3, rfl, hblt, g0, g1, g2, g3, hf⟩ := HK.out k hlt
        rw [← hb.cell (p := ⟨b, _, none⟩) hblt] at g0 g1 g2 g3
        obtain ⟨ck, cc, cta, ctn, ctcap, cka, ckn, ckcap, rfl, rfl, rfl, rfl⟩ := hf.form
        have hb2 := hb.alloc hb.size (.cells #[.int .i64 ck, .int .i64 cc, .slice cta ctn ctcap, .slice cka ckn ckcap] 28)
        by_cases hvm : m < v
        · have hr : r = v := by
            have h1 := HLE.out k
            have h2 := hv.out
            rw [← HR.out]
            unfold cnt at h2 ⊢
            split at h2 <;> split <;> omega
          subst hr
          clear hv hf
          go_wp2_with fail
          go_ret
          exact ⟨rfl, hb2⟩
        · have hih := HI.out (f.ks.getD k default) _ (m - v) _ (by omega) (by omega) ((hf.below hb2).mono hb2.size)
          have hs := HST.out k hlt
          have hv3 : Hid (v + cnt (siz n (f.ks.getD k default)) (m - v) = cnt (1 + sizTo n f.ks (k + 1)) m) := by
            have h2 := hv.out
            show _ = _
            unfold cnt at h2 ⊢
            rw [hs]
            split at h2 <;> split <;> split <;> omega
          have hc1 : 0 ≤ cnt (siz n (f.ks.getD k default)) (m - v) ∧ cnt (siz n (f.ks.getD k default)) (m - v) ≤ m - v + 1 := by
            unfold cnt
            split <;> omega
          generalize cnt (siz n (f.ks.getD k default)) (m - v) = u at hih hv3 hc1
          clear hs hf hv
          go_wp2_with fail
          refine hih.mono ?_
          rintro e w1 ⟨rfl, hb1⟩
          have HB1 := Lib.hid (hb2.trans (hb1.mono hb2.size))
          clear g0 g1 g2 g3 hih hb1 hb2
          go_wp2
          go_roundw
          case rel => exact ⟨k + 1, v + u, by omega, by go_num, by go_num, by omega, by omega, hv3, HB1.out⟩
          case measure => simp [intOf]; omega
      · have hr : r = v := by
          have h1 := HLN.out
          have h2 := hv.out
          obtain rfl : k = len := by omega
          rw [← HR.out, h2, h1]
        subst hr
        clear hv
        go_wp2
        go_ret
        exact ⟨rfl, hb⟩
end Go.Proofs.Ytknagcednppokaa

namespace Go.Proofs.Ytknagcednppokaa
open Go.RowKit
set_option maxHeartbeats 800000 in
theorem ndeeper_any : ∀ (n : Nat) (f : FT) (cs : List Value) (m : Int) (w : World), 0 ≤ m → m ≤ 1048576 → FLies w.heap.size w n f cs →
    Calls Try.prog 38 #[.agg cs.toArray, .int .i64 m] w fun e w' => e = .returned (.bool (decide (m < (dep n f : Int)))) ∧ Below w.heap.size w w'
  | 0, _, _, _, _, _, _, h => h.elim
  | n + 1, f, cs, m, w, h0, h1, h => by
    have IH := ndeeper_any n
    obtain ⟨ta, tcap, ka, kcap, rfl, _, _, hk4, hks⟩ := h
    have HB0 : Hid (Below w.heap.size w (w.alloc (.cells #[.int .i64 f.kind, .int .i64 f.c, .slice ta f.t.length tcap, .slice ka f.ks.length kcap] 28))) := (Below.refl _ w).alloc (Nat.le_refl _) _
    by_cases hm : m = 0
    · subst hm
      have hd : decide ((0 : Int) < (dep (n + 1) f : Int)) = true := by have := dep_zero n f; simp; omega
      rw [hd]
      clear IH hks hd
      go_enter Try.func38, Try.ntmps38
      go_wp2
      go_ret
      exact ⟨rfl, HB0.out⟩
    · have HD := Lib.hid (dep_int (n := n) (f := f) h0 hm)
      have HI := Lib.hid IH
      have HK := Lib.hid hks
      have hme : (m == 0) = false := by simpa using hm
      generalize hr : decide (m < (dep (n + 1) f : Int)) = r
      have HR := Lib.hid hr
      clear IH hks hr
      generalize f.kind = fk at HB0
      generalize f.c = fc at HB0
      generalize f.t.length = ft at HB0
      generalize hl : f.ks.length = len at HB0 HK HD hk4
      clear hl
      go_enter Try.func38, Try.ntmps38
      go_wp2
      go_loopw [12] (fun i wr => ∃ k : Nat, k ≤ len ∧ i = .int .i64 k ∧ Hid (∀ j, j < k → (dep n (f.ks.getD j default) : Int) ≤ m - 1) ∧ Below w.heap.size w wr) (fun i _ => len - (intOf i).toNat)
      case atStart => exact ⟨0, Nat.zero_le _, rfl, fun j hj => absurd hj (Nat.not_lt_zero j), HB0.out⟩
      case round =>
        obtain ⟨k, hk, rfl, hno, hb⟩ := hrel
        by_cases hlt : k < len
        · obtain ⟨b, off, c0, c1, c2, c3, rfl, hblt, g0, g1, g2, g3, hf⟩ := HK.out k hlt
          rw [← hb.cell (p := ⟨b, _, none⟩) hblt] at g0 g1 g2 g3
          obtain ⟨ck, cc, cta, ctn, ctcap, cka, ckn, ckcap, rfl, rfl, rfl, rfl⟩ := hf.form
          have hb2 := hb.alloc hb.size (.cells #[.int .i64 ck, .int .i64 cc, .slice cta ctn ctcap, .slice cka ckn ckcap] 28)
          have hih := HI.out (f.ks.getD k default) _ (m - 1) _ (by omega) (by omega) ((hf.below hb2).mono hb2.size)
          by_cases hd : m - 1 < (dep n (f.ks.getD k default) : Int)
          · have hr : r = true := by rw [← HR.out]; exact decide_eq_true (HD.out.2 ⟨k, hlt, hd⟩)
            rw [decide_eq_true hd] at hih
            subst hr
            clear hd hf hno
            go_wp2_with fail
            refine hih.mono ?_
            rintro e w1 ⟨rfl, hb1⟩
            have HB1 := Lib.hid (hb2.trans (hb1.mono hb2.size))
            clear g0 g1 g2 g3 hih hb1 hb2
            go_wp2
            go_ret
            exact ⟨rfl, HB1.out⟩
          · rw [decide_eq_false hd] at hih
            have hno2 : Hid (∀ j, j < k + 1 → (dep n (f.ks.getD j default) : Int) ≤ m - 1) := fun j hj => by
              by_cases ej : j = k
              · rw [ej]; omega
              · exact hno.out j (by omega)
            clear hd hf hno
            go_wp2_with fail
            refine hih.mono ?_
            rintro e w1 ⟨rfl, hb1⟩
            have HB1 := Lib.hid (hb2.trans (hb1.mono hb2.size))
            clear g0 g1 g2 g3 hih hb1 hb2
            go_wp2
            go_roundw
            case rel => exact ⟨k + 1, by omega, by go_num, hno2, HB1.out⟩
            case measure => simp [intOf]; omega
        · have hr : r = false := by
            rw [← HR.out]
            refine decide_eq_false fun h => ?_
            obtain ⟨i, hi, hd⟩ := HD.out.1 h
            have := hno.out i (by omega); omega
          subst hr
          clear hno
          go_wp2
          go_ret
          exact ⟨rfl, hb⟩
set_option maxRecDepth 100000 in
set_option maxHeartbeats 800000 in
theorem ncount_any : ∀ (n : Nat) (f : FT) (cs : List Value) (m : Int) (w : World), 0 ≤ m → m ≤ 1048576 → FLies w.heap.size w n f cs →
    Calls Try.prog 39 #[.agg cs.toArray, .int .i64 m] w fun e w' => e = .returned (.int .i64 (cnt (siz n f) m)) ∧ Below w.heap.size w w'
  | 0, _, _, _, _, _, _, h => h.elim
  | n + 1, f, cs, m, w, h0, h1, h => by
    have IH := ncount_any n
    obtain ⟨ta, tcap, ka, kcap, rfl, _, _, hk4, hks⟩ := h
    have HB0 : Hid (Below w.heap.size w (w.alloc (.cells #[.int .i64 f.kind, .int .i64 f.c, .slice ta f.t.length tcap, .slice ka f.ks.length kcap] 28))) := (Below.refl _ w).alloc (Nat.le_refl _) _
    have HI := Lib.hid IH
    have HK := Lib.hid hks
    have HLE := Lib.hid (sizTo_le n f)
    have HLN := Lib.hid (sizTo_len n f)
    have HST := Lib.hid (sizTo_succ n f.ks)
    have S0 : Hid ((1 : Int) = cnt (1 + sizTo n f.ks 0) m) := by
      show _ = _
      unfold cnt
      rw [sizTo_zero]
      split <;> omega
    generalize hr : cnt (siz (n + 1) f) m = r
    have HR := Lib.hid hr
    clear IH hks hr
    generalize f.kind = fk at HB0
    generalize f.c = fc at HB0
    generalize f.t.length = ft at HB0
    generalize hl : f.ks.length = len at HB0 HK hk4 HST HLN
    clear hl
    go_enter Try.func39, Try.ntmps39
    go_wp2
    go_loopw [5, 11] (fun s i wr => ∃ (k : Nat) (v : Int), k ≤ len ∧ i = .int .i64 k ∧ s = .int .i64 v ∧ 1 ≤ v ∧ v ≤ m + 1 ∧ Hid (v = cnt (1 + sizTo n f.ks k) m) ∧ Below w.heap.size w wr) (fun _ i _ => len - (intOf i).toNat)
    case atStart => exact ⟨0, 1, Nat.zero_le _, rfl, rfl, by omega, by omega, S0, HB0.out⟩
    case round =>
      obtain ⟨k, v, hk, rfl, rfl, hv1, hv2, hv, hb⟩ := hrel
      by_cases hlt : k < len
      · obtain ⟨b, off, c0, c1, c2, c3, rfl, hblt, g0, g1, g2, g3, hf⟩ := HK.out k hlt
        rw [← hb.cell (p := ⟨b, _, none⟩) hblt] at g0 g1 g2 g3
        obtain ⟨ck, cc, cta, ctn, ctcap, cka, ckn, ckcap, rfl, rfl, rfl, rfl⟩ := hf.form
        have hb2 := hb.alloc hb.size (.cells #[.int .i64 ck, .int .i64 cc, .slice cta ctn ctcap, .slice cka ckn ckcap] 28)
        by_cases hvm : m < v
        · have hr : r = v := by
            have h1 := HLE.out k
            have h2 := hv.out
            rw [← HR.out]
            unfold cnt at h2 ⊢
            split at h2 <;> split <;> omega
          subst hr
          clear hv hf
          go_wp2_with fail
          go_ret
          exact ⟨rfl, hb2⟩
        · have hih := HI.out (f.ks.getD k default) _ (m - v) _ (by omega) (by omega) ((hf.below hb2).mono hb2.size)
          have hs := HST.out k hlt
          have hv3 : Hid (v + cnt (siz n (f.ks.getD k default)) (m - v) = cnt (1 + sizTo n f.ks (k + 1)) m) := by
            have h2 := hv.out
            show _ = _
            unfold cnt at h2 ⊢
            rw [hs]
            split at h2 <;> split <;> split <;> omega
          have hc1 : 0 ≤ cnt (siz n (f.ks.getD k default)) (m - v) ∧ cnt (siz n (f.ks.getD k default)) (m - v) ≤ m - v + 1 := by
            unfold cnt
            split <;> omega
          generalize cnt (siz n (f.ks.getD k default)) (m - v) = u at hih hv3 hc1
          clear hs hf hv
          go_wp2_with fail
          refine hih.mono ?_
          rintro e w1 ⟨rfl, hb1⟩
          have HB1 := Lib.hid (hb2.trans (hb1.mono hb2.size))
          clear g0 g1 g2 g3 hih hb1 hb2
          go_wp2
          go_roundw
          case rel => exact ⟨k + 1, v + u, by omega, by go_num, by go_num, by omega, by omega, hv3, HB1.out⟩
          case measure => simp [intOf]; omega
      · have hr : r = v := by
          have h1 := HLN.out
          have h2 := hv.out
          obtain rfl : k = len := by omega
          rw [← HR.out, h2, h1]
        subst hr
        clear hv
        go_wp2
        go_ret
        exact ⟨rfl, hb⟩
end Go.Proofs.Ytknagcednppokaa

namespace Go.Proofs.Ytknagcednppokaa
open Go.RowKit

def gAt (l : List (Int × Int)) : Nat → Int
  | 0 => 0
  | i + 1 => (Nat.gcd (gAt l i).natAbs (l.getD i (0, 0)).2.natAbs : Nat)
theorem gAt_com (l : List (Int × Int)) (i : Nat) : com (gAt l i) (l.getD i (0, 0)).2 = gAt l (i + 1) := by rw [com_nat]; rfl

theorem gcd_small {a b : Nat} (ha : a ≤ 1073741824) (hb : b ≤ 1073741824) : Nat.gcd a b ≤ 1073741824 := by
  by_cases h : a = 0
  · subst h; simpa using hb
  · exact Nat.le_trans (Nat.gcd_le_left b (by omega)) ha
theorem gAt_in (l : List (Int × Int)) : ∀ i, (∀ j, j < i → -1073741824 ≤ (l.getD j (0, 0)).2 ∧ (l.getD j (0, 0)).2 ≤ 1073741824) → 0 ≤ gAt l i ∧ gAt l i ≤ 1073741824
  | 0, _ => by unfold gAt; omega
  | i + 1, h => by
    have h1 := gAt_in l i (fun j hj => h j (by omega))
    have h2 := h i (by omega)
    have := gcd_small (a := (gAt l i).natAbs) (b := (l.getD i (0, 0)).2.natAbs) (by omega) (by omega)
    unfold gAt; omega

theorem okAt_in {l : List (Int × Int)} {i : Nat} (h : okAt l i = true) : lastAt l i < (l.getD i (0, 0)).1 ∧ (l.getD i (0, 0)).2 ≠ 0 ∧ 0 ≤ (l.getD i (0, 0)).1 ∧ (l.getD i (0, 0)).1 < 1048576 ∧ -1073741824 ≤ (l.getD i (0, 0)).2 ∧ (l.getD i (0, 0)).2 ≤ 1073741824 := by
  unfold okAt chk mst wi at h
  simp only [Bool.and_eq_true, decide_eq_true_eq] at h
  exact ⟨h.1, h.2.1, h.2.2.1.1, h.2.2.1.2, h.2.2.2.1, h.2.2.2.2⟩

theorem Try.enters28 : ∀ args w, (callFunc 66 args).run Try.prog w = .ok (.enter 66 args) w := fun _ _ => by kernel_rfl

theorem gcdAll (p : Nat) (a : Option Addr) (n cap : Nat) (l : List (Int × Int)) (w : World) (B : Nat) (hB : B ≤ p) (hn : l.length = n) (hm : n ≤ 64) (hl : Lies B w a l) (ho : Own w p 0)
    (h : ∀ j, j < n → -1073741824 ≤ (l.getD j (0, 0)).2 ∧ (l.getD j (0, 0)).2 ≤ 1073741824) :
    Calls Try.prog 47 #[.slice a n cap, .func (.func 66) #[] #[.pointer (some ⟨p, 0, none⟩)]] w fun e w' => e = .returned (.bool true) ∧ Own w' p (gAt l n) ∧ Below B w w' :=
  (all_yes 66 #[.pointer (some ⟨p, 0, none⟩)] a n cap l w (fun i W => Own W p (gAt l i)) (fun _ => true) Try.enters28 hn (by omega) B (Nat.le_trans hB (Nat.le_of_lt ho.1)) hl ho
    (fun _ _ o h => h.alloc o)
    (fun i W hi _ hI => by
      have hg := gAt_in l i (fun j hj => h j (by omega))
      have hk := h i hi
      exact (gcdLit_any p (gAt l i) (l.getD i (0, 0)).1 (l.getD i (0, 0)).2 W hI (by omega) hg.2 hk.1 hk.2).mono fun _ _ ⟨he, ho', hb⟩ => ⟨he, by rw [← gAt_com]; exact ho', hb.mono hB⟩)
    (fun _ _ => rfl))

set_option maxHeartbeats 800000 in
theorem gcd_yes (c : Int) (a : Option Addr) (n cap : Nat) (l : List (Int × Int)) (w : World) (hn : l.length = n) (hl : Lies w.heap.size w a l) (hs : snd c l = true) :
    Calls Try.prog 50 #[.agg #[.int .i64 c, .slice a n cap]] w fun e w' => e = .returned (.int .i64 (gAt l n)) ∧ Below w.heap.size w w' := by
  obtain ⟨hwi, h64, hall⟩ := snd_iff.1 hs
  clear hwi
  have hb0 : Below w.heap.size w (w.alloc (.cells #[.int .i64 c, .slice a n cap] 24)) := (Below.refl _ w).alloc (Nat.le_refl _) _
  have hck := check_yes c a n cap l _ hn ((hl.below hb0).mono hb0.size) hs
  have hga := fun (W : World) (p : Nat) (hB : w.heap.size ≤ p) (hb : Below w.heap.size w W) (ho : Own W p 0) => gcdAll p a n cap l W w.heap.size hB hn (by omega) (hl.below hb) ho (fun j hj => by have := okAt_in (hall j (by omega)); omega)
  generalize gAt l n = g at hga ⊢
  have HG := Lib.hid hga
  have HB := Lib.hid hb0
  clear hn hs hall hl h64 hga hb0
  go_enter Try.func50, Try.ntmps50
  go_wp2_with (first | (go_at_call 24; refine hck.mono ?_; rintro e w1 ⟨rfl, hb1⟩; obtain ⟨hc1, hf1⟩ := bcell hb1; have hz : w.heap.size < w1.heap.size := (by have := hb1.size; simp at this; omega); clear hck) | (go_at_call 47; refine (HG.out _ w1.heap.size (by omega) ((HB.out.trans (hb1.mono (by simp))).alloc (by omega) _) (Own.new _ _ _)).mono ?_; rintro e w2 ⟨rfl, ho, hb2⟩; obtain ⟨ho1, ho2, ho3⟩ := ho))
  go_ret
  exact ⟨rfl, ((HB.out.trans (hb1.mono (by simp))).alloc (by omega) _).trans hb2⟩

set_option maxHeartbeats 800000 in
theorem gcd_no (c : Int) (a : Option Addr) (n cap : Nat) (l : List (Int × Int)) (w : World) (hn : l.length = n) (hm : n ≤ 9223372036854775807) (hl : Lies w.heap.size w a l) (hs : snd c l = false) :
    Calls Try.prog 50 #[.agg #[.int .i64 c, .slice a n cap]] w fun e w' => e = .returned (.int .i64 0) ∧ Below w.heap.size w w' := by
  have hb0 : Below w.heap.size w (w.alloc (.cells #[.int .i64 c, .slice a n cap] 24)) := (Below.refl _ w).alloc (Nat.le_refl _) _
  have hck := check_no c a n cap l _ hn hm ((hl.below hb0).mono hb0.size) hs
  have HB := Lib.hid hb0
  clear hn hs hl hb0
  go_enter Try.func50, Try.ntmps50
  go_wp2_with (go_at_call 24; refine hck.mono ?_; rintro e w1 ⟨rfl, hb1⟩)
  go_ret
  exact ⟨rfl, HB.out.trans (hb1.mono (by simp))⟩

theorem gcd_step (a b : Int) : Nat.gcd a.natAbs b.natAbs = Nat.gcd b.natAbs (a.tmod b).natAbs := by
  rw [Int.natAbs_tmod, Nat.gcd_comm a.natAbs, Nat.gcd_rec b.natAbs a.natAbs, Nat.gcd_comm]
theorem gcd_emod {x y : Int} (hx : 0 ≤ x) (hy : 0 < y) : (Nat.gcd x.natAbs y.natAbs : Int) = (Nat.gcd y.natAbs (x % y).natAbs : Nat) ∧ 0 ≤ x % y ∧ x % y < y ∧ x.tmod y = x % y := by
  have h := Int.tmod_eq_emod_of_nonneg (b := y) hx
  refine ⟨by rw [← h, ← gcd_step], Int.emod_nonneg _ (by omega), Int.emod_lt_of_pos _ hy, h⟩

set_option maxHeartbeats 1000000 in
/-- One step of it, behind the signs. -/
theorem two_step (a b x y r : Int) (w : World) (hx : x = if a < 0 then -a else a) (hy : y = if b < 0 then -b else b) (hx0 : 0 ≤ x) (hx1 : x ≤ 1073741824) (hy0 : 0 < y) (hy1 : y ≤ 1073741824)
    (hi : ∀ z, z = x % y → ∀ W, Calls Try.prog 53 #[.int .i64 y, .int .i64 z] W fun e w' => e = .returned (.int .i64 r) ∧ W = w') :
    Calls Try.prog 53 #[.int .i64 a, .int .i64 b] w fun e w' => e = .returned (.int .i64 r) ∧ w = w' := by
  have HI := Lib.hid hi
  have HE := Lib.hid (Int.tmod_eq_emod_of_nonneg (b := y) hx0)
  clear hi
  have hyne : (y == 0) = false := by simp; omega
  by_cases ha : a < 0
  · rw [if_pos ha] at hx
    by_cases hb : b < 0
    · rw [if_pos hb] at hy
      subst hx; subst hy
      go_enter Try.func53, Try.ntmps53
      go_wp2_with fail
      refine (HI.out _ (by first | rfl | exact (Int.emod_neg _ _).symm | exact HE.out | (rw [← HE.out, Int.neg_tmod, Int.tmod_neg]) | (rw [← HE.out, Int.neg_tmod]) | (rw [← HE.out, Int.tmod_neg])) _).mono ?_
      rintro e w' ⟨rfl, rfl⟩
      go_wp2_with fail
      go_ret
      exact ⟨rfl, rfl⟩
    · rw [if_neg hb] at hy
      subst hx; subst hy
      go_enter Try.func53, Try.ntmps53
      go_wp2_with fail
      refine (HI.out _ (by first | rfl | exact (Int.emod_neg _ _).symm | exact HE.out | (rw [← HE.out, Int.neg_tmod, Int.tmod_neg]) | (rw [← HE.out, Int.neg_tmod]) | (rw [← HE.out, Int.tmod_neg])) _).mono ?_
      rintro e w' ⟨rfl, rfl⟩
      go_wp2_with fail
      go_ret
      exact ⟨rfl, rfl⟩
  · rw [if_neg ha] at hx
    by_cases hb : b < 0
    · rw [if_pos hb] at hy
      subst hx; subst hy
      go_enter Try.func53, Try.ntmps53
      go_wp2_with fail
      refine (HI.out _ (by first | rfl | exact (Int.emod_neg _ _).symm | exact HE.out | (rw [← HE.out, Int.neg_tmod, Int.tmod_neg]) | (rw [← HE.out, Int.neg_tmod]) | (rw [← HE.out, Int.tmod_neg])) _).mono ?_
      rintro e w' ⟨rfl, rfl⟩
      go_wp2_with fail
      go_ret
      exact ⟨rfl, rfl⟩
    · rw [if_neg hb] at hy
      subst hx; subst hy
      go_enter Try.func53, Try.ntmps53
      go_wp2_with fail
      refine (HI.out _ (by first | rfl | exact (Int.emod_neg _ _).symm | exact HE.out | (rw [← HE.out, Int.neg_tmod, Int.tmod_neg]) | (rw [← HE.out, Int.neg_tmod]) | (rw [← HE.out, Int.tmod_neg])) _).mono ?_
      rintro e w' ⟨rfl, rfl⟩
      go_wp2_with fail
      go_ret
      exact ⟨rfl, rfl⟩

/-- The document's own greatest divisor of two. -/
theorem two_any (m : Nat) : ∀ (a b r : Int) (w : World), b.natAbs ≤ m → -1073741824 ≤ a → a ≤ 1073741824 → -1073741824 ≤ b → b ≤ 1073741824 → r = (Nat.gcd a.natAbs b.natAbs : Nat) →
    Calls Try.prog 53 #[.int .i64 a, .int .i64 b] w fun e w' => e = .returned (.int .i64 r) ∧ w = w' := by
  have zero : ∀ (a r : Int) (w : World), -1073741824 ≤ a → a ≤ 1073741824 → r = (Nat.gcd a.natAbs (0 : Int).natAbs : Nat) →
    Calls Try.prog 53 #[.int .i64 a, .int .i64 0] w fun e w' => e = .returned (.int .i64 r) ∧ w = w' := by
    intro a r w h1 h2 hr
    by_cases ha : a < 0
    · obtain rfl : r = -a := by rw [hr]; simp; omega
      clear hr
      go_enter Try.func53, Try.ntmps53
      go_wp2_with fail
      go_ret
      exact ⟨rfl, rfl⟩
    · obtain rfl : r = a := by rw [hr]; simp; omega
      clear hr
      go_enter Try.func53, Try.ntmps53
      go_wp2_with fail
      go_ret
      exact ⟨rfl, rfl⟩
  induction m with
  | zero =>
    intro a b r w hm h1 h2 _ _ hr
    obtain rfl : b = 0 := by omega
    exact zero a r w h1 h2 hr
  | succ m ih =>
    intro a b r w hm h1 h2 h3 h4 hr
    by_cases hb0 : b = 0
    · subst hb0; exact zero a r w h1 h2 hr
    · obtain ⟨x, hx, hx0, hx1⟩ : ∃ x : Int, x = (if a < 0 then -a else a) ∧ 0 ≤ x ∧ x ≤ 1073741824 := ⟨_, rfl, by split <;> omega, by split <;> omega⟩
      obtain ⟨y, hy, hy0, hy1, hym⟩ : ∃ y : Int, y = (if b < 0 then -b else b) ∧ 0 < y ∧ y ≤ 1073741824 ∧ y.natAbs ≤ m + 1 := ⟨_, rfl, by split <;> omega, by split <;> omega, by split <;> omega⟩
      have hxa : x.natAbs = a.natAbs := by rw [hx]; split <;> omega
      have hyb : y.natAbs = b.natAbs := by rw [hy]; split <;> omega
      obtain ⟨g1, g2, g3, g4⟩ := gcd_emod hx0 hy0
      rw [← hxa, ← hyb, g1] at hr
      exact two_step a b x y r w hx hy hx0 hx1 hy0 hy1 fun z hz W => ih y z r W (by omega) (by omega) hy1 (by omega) (by omega) (by rw [hz]; exact hr)
end Go.Proofs.Ytknagcednppokaa
