/- Formulas as trees. formula.deeper, formula.count. norm.deeper, norm.count. Two errors of one integer type held against each other; the document's examples of layer 1. -/
import Derived.Test.YtelndcmfddbgiaaDoorCt02
import Derived.Test.YtelndcmfddbgiaaDoorCt03
import Derived.LaidEql
import Derived.Lib.QuietBelow
set_option linter.unusedVariables false
set_option linter.unusedSimpArgs false
namespace Go.Proofs.YtelndcmfddbgiaaDoor
open Go.RowKit
/-- A formula as a tree: its kind, its form, its parts. -/
inductive FT where
  | mk (kind c : Int) (t : List (Int × Int)) (ks : List FT)
instance : Inhabited FT := ⟨.mk 0 0 [] []⟩
def FT.kind : FT → Int | .mk k _ _ _ => k
def FT.c : FT → Int | .mk _ c _ _ => c
def FT.t : FT → List (Int × Int) | .mk _ _ t _ => t
def FT.ks : FT → List FT | .mk _ _ _ ks => ks

def top (l : List Nat) : Nat := l.foldr max 0
theorem lt_top {m : Nat} {l : List Nat} : m < top l ↔ ∃ x ∈ l, m < x := by
  induction l with
  | nil => simp [top]
  | cons a r ih =>
    have e : top (a :: r) = max a (top r) := rfl
    rw [e]
    constructor
    · intro h
      by_cases h1 : m < a
      · exact ⟨a, by simp, h1⟩
      · obtain ⟨x, hx, hm⟩ := ih.1 (by omega)
        exact ⟨x, by simp [hx], hm⟩
    · rintro ⟨x, hx, hm⟩
      rcases List.mem_cons.1 hx with rfl | hx
      · omega
      · have := ih.2 ⟨x, hx, hm⟩
        omega

/-- How deep, of a tree of at most n layers. -/
def dep : Nat → FT → Nat
  | 0, _ => 0
  | n + 1, f => 1 + top (f.ks.map (dep n))
/-- How many parts. -/
def siz : Nat → FT → Nat
  | 0, _ => 0
  | n + 1, f => 1 + (f.ks.map (siz n)).sum
theorem dep_zero (n : Nat) (f : FT) : 0 < dep (n + 1) f := by unfold dep; omega
theorem dep_succ {n m : Nat} {f : FT} : m + 1 < dep (n + 1) f ↔ ∃ i, i < f.ks.length ∧ m < dep n (f.ks.getD i default) := by
  rw [show dep (n + 1) f = 1 + top (f.ks.map (dep n)) from rfl, show m + 1 < 1 + top (f.ks.map (dep n)) ↔ m < top (f.ks.map (dep n)) by omega, lt_top]
  constructor
  · rintro ⟨x, hx, hm⟩
    obtain ⟨k, hk, rfl⟩ := List.mem_map.1 hx
    obtain ⟨i, hi, rfl⟩ := List.getElem_of_mem hk
    exact ⟨i, hi, by rw [List.getD_eq_getElem?_getD, List.getElem?_eq_getElem hi]; exact hm⟩
  · rintro ⟨i, hi, hm⟩
    rw [List.getD_eq_getElem?_getD, List.getElem?_eq_getElem hi] at hm
    exact ⟨_, List.mem_map.2 ⟨_, List.getElem_mem hi, rfl⟩, hm⟩
/-- The size of the first parts. -/
def sizTo (n : Nat) (ks : List FT) (i : Nat) : Nat := ((ks.take i).map (siz n)).sum
theorem sizTo_zero (n : Nat) (ks : List FT) : sizTo n ks 0 = 0 := rfl
theorem sizTo_succ (n : Nat) (ks : List FT) (i : Nat) (h : i < ks.length) : sizTo n ks (i + 1) = sizTo n ks i + siz n (ks.getD i default) := by
  unfold sizTo
  rw [List.take_succ_eq_append_getElem h, List.map_append, List.sum_append]
  simp [List.getD_eq_getElem?_getD, h]
theorem sizTo_len (n : Nat) (f : FT) : siz (n + 1) f = 1 + sizTo n f.ks f.ks.length := by unfold siz sizTo; rw [List.take_length]
theorem sizTo_mono (n : Nat) (ks : List FT) {i j : Nat} (h : i ≤ j) : sizTo n ks i ≤ sizTo n ks j := by
  induction h with
  | refl => exact Nat.le_refl _
  | @step j h ih =>
    by_cases hj : j < ks.length
    · rw [sizTo_succ n ks j hj]; omega
    · unfold sizTo at ih ⊢
      rw [List.take_of_length_le (show ks.length ≤ j + 1 by omega)]
      rw [List.take_of_length_le (show ks.length ≤ j by omega)] at ih
      exact ih
theorem siz_pos (n : Nat) (f : FT) : 0 < siz (n + 1) f := by unfold siz; omega

/-- Is a formula itself sound, but for its parts, its depth and its size? (its kind, constant, terms' and parts' count, whether its form is sound) -/
def ownV (k c t l : Int) (sn : Bool) : Bool :=
  if k = 0 ∨ k = 1 then (c == 0 && t == 0) && l == 0
  else if k = 2 ∨ k = 3 then sn && l == 0
  else if k = 4 then (c == 0 && t == 0) && l == 1
  else if k = 5 ∨ k = 6 then c == 0 && t == 0
  else false
def ownF (f : FT) : Bool := ownV f.kind f.c f.t.length f.ks.length (snd f.c f.t)
/-- Is it sound, but for its depth and its size? -/
def sndF : Nat → FT → Bool
  | 0, _ => false
  | n + 1, f => ownF f && decide (∀ i, i < f.ks.length → sndF n (f.ks.getD i default) = true)

theorem sndF_no {n : Nat} {f : FT} {i : Nat} (hi : i < f.ks.length) (h : sndF n (f.ks.getD i default) = false) : sndF (n + 1) f = false := by
  show (ownF f && decide (∀ i, i < f.ks.length → sndF n (f.ks.getD i default) = true)) = false
  rw [decide_eq_false (fun hh => by rw [hh i hi] at h; cases h), Bool.and_false]
theorem sndF_yes {n : Nat} {f : FT} (h : ∀ i, i < f.ks.length → sndF n (f.ks.getD i default) = true) : sndF (n + 1) f = ownF f := by
  show (ownF f && decide (∀ i, i < f.ks.length → sndF n (f.ks.getD i default) = true)) = ownF f
  rw [decide_eq_true h, Bool.and_true]

/-- A formula lies in memory: its four cells; its terms and its parts in blocks below B. -/
def FLies (B : Nat) (w : World) : Nat → FT → List Value → Prop
  | 0, _, _ => False
  | n + 1, f, cs => ∃ (ta : Option Addr) (tcap : Nat) (ka : Option Addr) (kcap : Nat), cs = [.int .i64 f.kind, .int .i64 f.c, .slice ta f.t.length tcap, .slice ka f.ks.length kcap] ∧
      Lies B w ta f.t ∧ f.t.length ≤ 9223372036854775807 ∧ f.ks.length ≤ 9223372036854775807 ∧
      ∀ i, i < f.ks.length → ∃ b off c0 c1 c2 c3, ka = some ⟨b, off, none⟩ ∧ b < B ∧ w.cell? ⟨b, off + i * 4, none⟩ = some c0 ∧ w.cell? ⟨b, off + i * 4 + 1, none⟩ = some c1 ∧ w.cell? ⟨b, off + i * 4 + 2, none⟩ = some c2 ∧ w.cell? ⟨b, off + i * 4 + 3, none⟩ = some c3 ∧
        FLies B w n (f.ks.getD i default) [c0, c1, c2, c3]
theorem FLies.form {B : Nat} {w : World} : ∀ {n : Nat} {f : FT} {c0 c1 c2 c3 : Value}, FLies B w n f [c0, c1, c2, c3] → ∃ (k c : Int) (ta : Option Addr) (tn tcap : Nat) (ka : Option Addr) (kn kcap : Nat), c0 = .int .i64 k ∧ c1 = .int .i64 c ∧ c2 = .slice ta tn tcap ∧ c3 = .slice ka kn kcap
  | 0, _, _, _, _, _, h => h.elim
  | n + 1, f, _, _, _, _, ⟨ta, tcap, ka, kcap, h1, _⟩ => by
    simp only [List.cons.injEq, and_true] at h1
    exact ⟨_, _, _, _, _, _, _, _, h1.1, h1.2.1, h1.2.2.1, h1.2.2.2⟩
theorem FLies.below {B : Nat} {w w' : World} (hb : Below B w w') : ∀ {n : Nat} {f : FT} {cs : List Value}, FLies B w n f cs → FLies B w' n f cs
  | 0, _, _, h => h
  | n + 1, f, cs, ⟨ta, tcap, ka, kcap, h1, h2, h3, h4, h5⟩ => ⟨ta, tcap, ka, kcap, h1, h2.below hb, h3, h4, fun i hi => by
    obtain ⟨b, off, c0, c1, c2, c3, e, hlt, g0, g1, g2, g3, hf⟩ := h5 i hi
    exact ⟨b, off, c0, c1, c2, c3, e, hlt, (hb.cell (p := ⟨b, off + i * 4, none⟩) hlt).trans g0, (hb.cell (p := ⟨b, off + i * 4 + 1, none⟩) hlt).trans g1, (hb.cell (p := ⟨b, off + i * 4 + 2, none⟩) hlt).trans g2, (hb.cell (p := ⟨b, off + i * 4 + 3, none⟩) hlt).trans g3, hf.below hb⟩⟩
theorem FLies.mono {B B' : Nat} {w : World} (hB : B ≤ B') : ∀ {n : Nat} {f : FT} {cs : List Value}, FLies B w n f cs → FLies B' w n f cs
  | 0, _, _, h => h
  | n + 1, f, cs, ⟨ta, tcap, ka, kcap, h1, h2, h3, h4, h5⟩ => ⟨ta, tcap, ka, kcap, h1, h2.mono hB, h3, h4, fun i hi => by
    obtain ⟨b, off, c0, c1, c2, c3, e, hlt, g0, g1, g2, g3, hf⟩ := h5 i hi
    exact ⟨b, off, c0, c1, c2, c3, e, Nat.lt_of_lt_of_le hlt hB, g0, g1, g2, g3, hf.mono hB⟩⟩
end Go.Proofs.YtelndcmfddbgiaaDoor

namespace Go.Proofs.YtelndcmfddbgiaaDoor
open Go.RowKit

theorem dep_int {n : Nat} {m : Int} {f : FT} (h0 : 0 ≤ m) (h1 : m ≠ 0) : m < (dep (n + 1) f : Int) ↔ ∃ i, i < f.ks.length ∧ m - 1 < (dep n (f.ks.getD i default) : Int) := by
  obtain ⟨k, rfl⟩ : ∃ k : Nat, m = (k + 1 : Nat) := ⟨(m - 1).toNat, by omega⟩
  have := dep_succ (n := n) (m := k) (f := f)
  constructor
  · intro h
    obtain ⟨i, hi, hd⟩ := this.1 (by omega)
    exact ⟨i, hi, by omega⟩
  · rintro ⟨i, hi, hd⟩
    have := this.2 ⟨i, hi, by omega⟩
    omega

set_option maxHeartbeats 800000 in
theorem deeper_any : ∀ (n : Nat) (f : FT) (cs : List Value) (m : Int) (w : World), 0 ≤ m → m ≤ 1048576 → FLies w.heap.size w n f cs →
    Calls Tryd.prog 52 #[.agg cs.toArray, .int .i64 m] w fun e w' => e = .returned (.bool (decide (m < (dep n f : Int)))) ∧ Below w.heap.size w w'
  | 0, _, _, _, _, _, _, h => h.elim
  | n + 1, f, cs, m, w, h0, h1, h => by
    have IH := deeper_any n
    obtain ⟨ta, tcap, ka, kcap, rfl, _, _, hk4, hks⟩ := h
    have HB0 : Hid (Below w.heap.size w (w.alloc (.cells #[.int .i64 f.kind, .int .i64 f.c, .slice ta f.t.length tcap, .slice ka f.ks.length kcap] 27))) := (Below.refl _ w).alloc (Nat.le_refl _) _
    by_cases hm : m = 0
    · subst hm
      have hd : decide ((0 : Int) < (dep (n + 1) f : Int)) = true := by have := dep_zero n f; simp; omega
      rw [hd]
      clear IH hks hd
      go_enter Tryd.func52, Tryd.ntmps52
      go_wp2
      go_ret
      exact ⟨rfl, HB0.out⟩
    · have HD := Lib.hid (dep_int (n := n) (f := f) h0 hm)
      have HI := Lib.hid IH
      have HK := Lib.hid hks
      have hme : (m == 0) = false := by simpa using hm
      generalize hr : decide (m < (dep (n + 1) f : Int)) = r
      have HR := Lib.hid hr
      clear IH hks hr
      generalize f.kind = fk at HB0
      generalize f.c = fc at HB0
      generalize f.t.length = ft at HB0
      generalize hl : f.ks.length = len at HB0 HK HD hk4
      clear hl
      go_enter Tryd.func52, Tryd.ntmps52
      go_wp2
      go_loopw [12] (fun i wr => ∃ k : Nat, k ≤ len ∧ i = .int .i64 k ∧ Hid (∀ j, j < k → (dep n (f.ks.getD j default) : Int) ≤ m - 1) ∧ Below w.heap.size w wr) (fun i _ => len - (intOf i).toNat)
      case atStart => exact ⟨0, Nat.zero_le _, rfl, fun j hj => absurd hj (Nat.not_lt_zero j), HB0.out⟩
      case round =>
        obtain ⟨k, hk, rfl, hno, hb⟩ := hrel
        by_cases hlt : k < len
        · obtain ⟨b, off, c0, c1, c2, c3, rfl, hblt, g0, g1, g2, g3, hf⟩ := HK.out k hlt
          rw [← hb.cell (p := ⟨b, _, none⟩) hblt] at g0 g1 g2 g3
          obtain ⟨ck, cc, cta, ctn, ctcap, cka, ckn, ckcap, rfl, rfl, rfl, rfl⟩ := hf.form
          have hb2 := hb.alloc hb.size (.cells #[.int .i64 ck, .int .i64 cc, .slice cta ctn ctcap, .slice cka ckn ckcap] 27)
          have hih := HI.out (f.ks.getD k default) _ (m - 1) _ (by omega) (by omega) ((hf.below hb2).mono hb2.size)
          by_cases hd : m - 1 < (dep n (f.ks.getD k default) : Int)
          · have hr : r = true := by rw [← HR.out]; exact decide_eq_true (HD.out.2 ⟨k, hlt, hd⟩)
            rw [decide_eq_true hd] at hih
            subst hr
            clear hd hf hno
            go_wp2_with fail
            refine hih.mono ?_
            rintro e w1 ⟨rfl, hb1⟩
            have HB1 := Lib.hid (hb2.trans (hb1.mono hb2.size))
            clear g0 g1 g2 g3 hih hb1 hb2
            go_wp2
            go_ret
            exact ⟨rfl, HB1.out⟩
          · rw [decide_eq_false hd] at hih
            have hno2 : Hid (∀ j, j < k + 1 → (dep n (f.ks.getD j default) : Int) ≤ m - 1) := fun j hj => by
              by_cases ej : j = k
              · rw [ej]; omega
              · exact hno.out j (by omega)
            clear hd hf hno
            go_wp2_with fail
            refine hih.mono ?_
            rintro e w1 ⟨rfl, hb1⟩
            have HB1 := Lib.hid (hb2.trans (hb1.mono hb2.size))
            clear g0 g1 g2 g3 hih hb1 hb2
            go_wp2
            go_roundw
            case rel => exact ⟨k + 1, by omega, by go_num, hno2, HB1.out⟩
            case measure => simp [intOf]; omega
        · have hr : r = false := by
            rw [← HR.out]
            refine decide_eq_false fun h => ?_
            obtain ⟨i, hi, hd⟩ := HD.out.1 h
            have := hno.out i (by omega); omega
          subst hr
          clear hno
          go_wp2
          go_ret
          exact ⟨rfl, hb⟩
theorem sizTo_le (n : Nat) (f : FT) (k : Nat) : 1 + sizTo n f.ks k ≤ siz (n + 1) f := by
  rw [sizTo_len]
  by_cases h : k ≤ f.ks.length
  · have := sizTo_mono n f.ks h; omega
  · have := sizTo_mono n f.ks (show f.ks.length ≤ k by omega)
    have e : sizTo n f.ks k = sizTo n f.ks f.ks.length := by
      unfold sizTo; rw [List.take_of_length_le (by omega), List.take_length]
    omega

/-- formula.count: the size, or one more than the bound. -/
def cnt (s : Nat) (m : Int) : Int := if (s : Int) ≤ m then s else m + 1

set_option maxRecDepth 100000 in
set_option maxHeartbeats 800000 in
theorem count_any : ∀ (n : Nat) (f : FT) (cs : List Value) (m : Int) (w : World), 0 ≤ m → m ≤ 1048576 → FLies w.heap.size w n f cs →
    Calls Tryd.prog 53 #[.agg cs.toArray, .int .i64 m] w fun e w' => e = .returned (.int .i64 (cnt (siz n f) m)) ∧ Below w.heap.size w w'
  | 0, _, _, _, _, _, _, h => h.elim
  | n + 1, f, cs, m, w, h0, h1, h => by
    have IH := count_any n
    obtain ⟨ta, tcap, ka, kcap, rfl, _, _, hk4, hks⟩ := h
    have HB0 : Hid (Below w.heap.size w (w.alloc (.cells #[.int .i64 f.kind, .int .i64 f.c, .slice ta f.t.length tcap, .slice ka f.ks.length kcap] 27))) := (Below.refl _ w).alloc (Nat.le_refl _) _
    have HI := Lib.hid IH
    have HK := Lib.hid hks
    have HLE := Lib.hid (sizTo_le n f)
    have HLN := Lib.hid (sizTo_len n f)
    have HST := Lib.hid (sizTo_succ n f.ks)
    have S0 : Hid ((1 : Int) = cnt (1 + sizTo n f.ks 0) m) := by
      show _ = _
      unfold cnt
      rw [sizTo_zero]
      split <;> omega
    generalize hr : cnt (siz (n + 1) f) m = r
    have HR := Lib.hid hr
    clear IH hks hr
    generalize f.kind = fk at HB0
    generalize f.c = fc at HB0
    generalize f.t.length = ft at HB0
    generalize hl : f.ks.length = len at HB0 HK hk4 HST HLN
    clear hl
    go_enter Tryd.func53, Tryd.ntmps53
    go_wp2
    go_loopw [5, 11] (fun s i wr => ∃ (k : Nat) (v : Int), k ≤ len ∧ i = .int .i64 k ∧ s = .int .i64 v ∧ 1 ≤ v ∧ v ≤ m + 1 ∧ Hid (v = cnt (1 + sizTo n f.ks k) m) ∧ Below w.heap.size w wr) (fun _ i _ => len - (intOf i).toNat)
    case atStart => exact ⟨0, 1, Nat.zero_le _, rfl, rfl, by omega, by omega, S0, HB0.out⟩
    case round =>
      obtain ⟨k, v, hk, rfl, rfl, hv1, hv2, hv, hb⟩ := hrel
      by_cases hlt : k < len
      · obtain ⟨b, off, c0, c1, c2, c3, rfl, hblt, g0, g1, g2, g3, hf⟩ := HK.out k hlt
        rw [← hb.cell (p := ⟨b, _, none⟩) hblt] at g0 g1 g2 g3
        obtain ⟨ck, cc, cta, ctn, ctcap, cka, ckn, ckcap, rfl, rfl, rfl, rfl⟩ := hf.form
        have hb2 := hb.alloc hb.size (.cells #[.int .i64 ck, .int .i64 cc, .slice cta ctn ctcap, .slice cka ckn ckcap] 27)
        by_cases hvm : m < v
        · have hr : r = v := by
            have h1 := HLE.out k
            have h2 := hv.out
            rw [← HR.out]
            unfold cnt at h2 ⊢
            split at h2 <;> split <;> omega
          subst hr
          clear hv hf
          go_wp2_with fail
          go_ret
          exact ⟨rfl, hb2⟩
        · have hih := HI.out (f.ks.getD k default) _ (m - v) _ (by omega) (by omega) ((hf.below hb2).mono hb2.size)
          have hs := HST.out k hlt
          have hv3 : Hid (v + cnt (siz n (f.ks.getD k default)) (m - v) = cnt (1 + sizTo n f.ks (k + 1)) m) := by
            have h2 := hv.out
            show _ = _
            unfold cnt at h2 ⊢
            rw [hs]
            split at h2 <;> split <;> split <;> omega
          have hc1 : 0 ≤ cnt (siz n (f.ks.getD k default)) (m - v) ∧ cnt (siz n (f.ks.getD k default)) (m - v) ≤ m - v + 1 := by
            unfold cnt
            split <;> omega
          generalize cnt (siz n (f.ks.getD k default)) (m - v) = u at hih hv3 hc1
          clear hs hf hv
          go_wp2_with fail
          refine hih.mono ?_
          rintro e w1 ⟨rfl, hb1⟩
          have HB1 := Lib.hid (hb2.trans (hb1.mono hb2.size))
          clear g0 g1 g2 g3 hih hb1 hb2
          go_wp2
          go_roundw
          case rel => exact ⟨k + 1, v + u, by omega, by go_num, by go_num, by omega, by omega, hv3, HB1.out⟩
          case measure => simp [intOf]; omega
      · have hr : r = v := by
          have h1 := HLN.out
          have h2 := hv.out
          obtain rfl : k = len := by omega
          rw [← HR.out, h2, h1]
        subst hr
        clear hv
        go_wp2
        go_ret
        exact ⟨rfl, hb⟩
end Go.Proofs.YtelndcmfddbgiaaDoor

namespace Go.Proofs.YtelndcmfddbgiaaDoor
open Go.RowKit
set_option maxHeartbeats 800000 in
theorem ndeeper_any : ∀ (n : Nat) (f : FT) (cs : List Value) (m : Int) (w : World), 0 ≤ m → m ≤ 1048576 → FLies w.heap.size w n f cs →
    Calls Tryd.prog 40 #[.agg cs.toArray, .int .i64 m] w fun e w' => e = .returned (.bool (decide (m < (dep n f : Int)))) ∧ Below w.heap.size w w'
  | 0, _, _, _, _, _, _, h => h.elim
  | n + 1, f, cs, m, w, h0, h1, h => by
    have IH := ndeeper_any n
    obtain ⟨ta, tcap, ka, kcap, rfl, _, _, hk4, hks⟩ := h
    have HB0 : Hid (Below w.heap.size w (w.alloc (.cells #[.int .i64 f.kind, .int .i64 f.c, .slice ta f.t.length tcap, .slice ka f.ks.length kcap] 27))) := (Below.refl _ w).alloc (Nat.le_refl _) _
    by_cases hm : m = 0
    · subst hm
      have hd : decide ((0 : Int) < (dep (n + 1) f : Int)) = true := by have := dep_zero n f; simp; omega
      rw [hd]
      clear IH hks hd
      go_enter Tryd.func40, Tryd.ntmps40
      go_wp2
      go_ret
      exact ⟨rfl, HB0.out⟩
    · have HD := Lib.hid (dep_int (n := n) (f := f) h0 hm)
      have HI := Lib.hid IH
      have HK := Lib.hid hks
      have hme : (m == 0) = false := by simpa using hm
      generalize hr : decide (m < (dep (n + 1) f : Int)) = r
      have HR := Lib.hid hr
      clear IH hks hr
      generalize f.kind = fk at HB0
      generalize f.c = fc at HB0
      generalize f.t.length = ft at HB0
      generalize hl : f.ks.length = len at HB0 HK HD hk4
      clear hl
      go_enter Tryd.func40, Tryd.ntmps40
      go_wp2
      go_loopw [12] (fun i wr => ∃ k : Nat, k ≤ len ∧ i = .int .i64 k ∧ Hid (∀ j, j < k → (dep n (f.ks.getD j default) : Int) ≤ m - 1) ∧ Below w.heap.size w wr) (fun i _ => len - (intOf i).toNat)
      case atStart => exact ⟨0, Nat.zero_le _, rfl, fun j hj => absurd hj (Nat.not_lt_zero j), HB0.out⟩
      case round =>
        obtain ⟨k, hk, rfl, hno, hb⟩ := hrel
        by_cases hlt : k < len
        · obtain ⟨b, off, c0, c1, c2, c3, rfl, hblt, g0, g1, g2, g3, hf⟩ := HK.out k hlt
          rw [← hb.cell (p := ⟨b, _, none⟩) hblt] at g0 g1 g2 g3
          obtain ⟨ck, cc, cta, ctn, ctcap, cka, ckn, ckcap, rfl, rfl, rfl, rfl⟩ := hf.form
          have hb2 := hb.alloc hb.size (.cells #[.int .i64 ck, .int .i64 cc, .slice cta ctn ctcap, .slice cka ckn ckcap] 27)
          have hih := HI.out (f.ks.getD k default) _ (m - 1) _ (by omega) (by omega) ((hf.below hb2).mono hb2.size)
          by_cases hd : m - 1 < (dep n (f.ks.getD k default) : Int)
          · have hr : r = true := by rw [← HR.out]; exact decide_eq_true (HD.out.2 ⟨k, hlt, hd⟩)
            rw [decide_eq_true hd] at hih
            subst hr
            clear hd hf hno
            go_wp2_with fail
            refine hih.mono ?_
            rintro e w1 ⟨rfl, hb1⟩
            have HB1 := Lib.hid (hb2.trans (hb1.mono hb2.size))
            clear g0 g1 g2 g3 hih hb1 hb2
            go_wp2
            go_ret
            exact ⟨rfl, HB1.out⟩
          · rw [decide_eq_false hd] at hih
            have hno2 : Hid (∀ j, j < k + 1 → (dep n (f.ks.getD j default) : Int) ≤ m - 1) := fun j hj => by
              by_cases ej : j = k
              · rw [ej]; omega
              · exact hno.out j (by omega)
            clear hd hf hno
            go_wp2_with fail
            refine hih.mono ?_
            rintro e w1 ⟨rfl, hb1⟩
            have HB1 := Lib.hid (hb2.trans (hb1.mono hb2.size))
            clear g0 g1 g2 g3 hih hb1 hb2
            go_wp2
            go_roundw
            case rel => exact ⟨k + 1, by omega, by go_num, hno2, HB1.out⟩
            case measure => simp [intOf]; omega
        · have hr : r = false := by
            rw [← HR.out]
            refine decide_eq_false fun h => ?_
            obtain ⟨i, hi, hd⟩ := HD.out.1 h
            have := hno.out i (by omega); omega
          subst hr
          clear hno
          go_wp2
          go_ret
          exact ⟨rfl, hb⟩
set_option maxRecDepth 100000 in
set_option maxHeartbeats 800000 in
theorem ncount_any : ∀ (n : Nat) (f : FT) (cs : List Value) (m : Int) (w : World), 0 ≤ m → m ≤ 1048576 → FLies w.heap.size w n f cs →
    Calls Tryd.prog 41 #[.agg cs.toArray, .int .i64 m] w fun e w' => e = .returned (.int .i64 (cnt (siz n f) m)) ∧ Below w.heap.size w w'
  | 0, _, _, _, _, _, _, h => h.elim
  | n + 1, f, cs, m, w, h0, h1, h => by
    have IH := ncount_any n
    obtain ⟨ta, tcap, ka, kcap, rfl, _, _, hk4, hks⟩ := h
    have HB0 : Hid (Below w.heap.size w (w.alloc (.cells #[.int .i64 f.kind, .int .i64 f.c, .slice ta f.t.length tcap, .slice ka f.ks.length kcap] 27))) := (Below.refl _ w).alloc (Nat.le_refl _) _
    have HI := Lib.hid IH
    have HK := Lib.hid hks
    have HLE := Lib.hid (sizTo_le n f)
    have HLN := Lib.hid (sizTo_len n f)
    have HST := Lib.hid (sizTo_succ n f.ks)
    have S0 : Hid ((1 : Int) = cnt (1 + sizTo n f.ks 0) m) := by
      show _ = _
      unfold cnt
      rw [sizTo_zero]
      split <;> omega
    generalize hr : cnt (siz (n + 1) f) m = r
    have HR := Lib.hid hr
    clear IH hks hr
    generalize f.kind = fk at HB0
    generalize f.c = fc at HB0
    generalize f.t.length = ft at HB0
    generalize hl : f.ks.length = len at HB0 HK hk4 HST HLN
    clear hl
    go_enter Tryd.func41, Tryd.ntmps41
    go_wp2
    go_loopw [5, 11] (fun s i wr => ∃ (k : Nat) (v : Int), k ≤ len ∧ i = .int .i64 k ∧ s = .int .i64 v ∧ 1 ≤ v ∧ v ≤ m + 1 ∧ Hid (v = cnt (1 + sizTo n f.ks k) m) ∧ Below w.heap.size w wr) (fun _ i _ => len - (intOf i).toNat)
    case atStart => exact ⟨0, 1, Nat.zero_le _, rfl, rfl, by omega, by omega, S0, HB0.out⟩
    case round =>
      obtain ⟨k, v, hk, rfl, rfl, hv1, hv2, hv, hb⟩ := hrel
      by_cases hlt : k < len
      · obtain ⟨b, off, c0, c1, c2, c3, rfl, hblt, g0, g1, g2, g3, hf⟩ := HK.out k hlt
        rw [← hb.cell (p := ⟨b, _, none⟩) hblt] at g0 g1 g2 g3
        obtain ⟨ck, cc, cta, ctn, ctcap, cka, ckn, ckcap, rfl, rfl, rfl, rfl⟩ := hf.form
        have hb2 := hb.alloc hb.size (.cells #[.int .i64 ck, .int .i64 cc, .slice cta ctn ctcap, .slice cka ckn ckcap] 27)
        by_cases hvm : m < v
        · have hr : r = v := by
            have h1 := HLE.out k
            have h2 := hv.out
            rw [← HR.out]
            unfold cnt at h2 ⊢
            split at h2 <;> split <;> omega
          subst hr
          clear hv hf
          go_wp2_with fail
          go_ret
          exact ⟨rfl, hb2⟩
        · have hih := HI.out (f.ks.getD k default) _ (m - v) _ (by omega) (by omega) ((hf.below hb2).mono hb2.size)
          have hs := HST.out k hlt
          have hv3 : Hid (v + cnt (siz n (f.ks.getD k default)) (m - v) = cnt (1 + sizTo n f.ks (k + 1)) m) := by
            have h2 := hv.out
            show _ = _
            unfold cnt at h2 ⊢
            rw [hs]
            split at h2 <;> split <;> split <;> omega
          have hc1 : 0 ≤ cnt (siz n (f.ks.getD k default)) (m - v) ∧ cnt (siz n (f.ks.getD k default)) (m - v) ≤ m - v + 1 := by
            unfold cnt
            split <;> omega
          generalize cnt (siz n (f.ks.getD k default)) (m - v) = u at hih hv3 hc1
          clear hs hf hv
          go_wp2_with fail
          refine hih.mono ?_
          rintro e w1 ⟨rfl, hb1⟩
          have HB1 := Lib.hid (hb2.trans (hb1.mono hb2.size))
          clear g0 g1 g2 g3 hih hb1 hb2
          go_wp2
          go_roundw
          case rel => exact ⟨k + 1, v + u, by omega, by go_num, by go_num, by omega, by omega, hv3, HB1.out⟩
          case measure => simp [intOf]; omega
      · have hr : r = v := by
          have h1 := HLN.out
          have h2 := hv.out
          obtain rfl : k = len := by omega
          rw [← HR.out, h2, h1]
        subst hr
        clear hv
        go_wp2
        go_ret
        exact ⟨rfl, hb⟩
end Go.Proofs.YtelndcmfddbgiaaDoor

namespace Go.Proofs.YtelndcmfddbgiaaDoor
open Go.RowKit

section
variable {P : Program} (w : World)
theorem run_equalIn_iface_int (d : Nat) {ti tn : TypeId} {ms : Array (String × TypeId)} {i : TypeInfo} {k : IntKind} (a b : Int)
    (hi : P.underlying ti = some (.interface ms)) (hn : P.underlying tn = some (.int k)) (hinfo : P.info? tn = some i) (hcomp : i.comparable = true) :
    (Op.equalIn (d + 2) ti (.iface tn (.int k a)) (.iface tn (.int k b))).run P w = .ok (a == b) w := by
  simp [Op.equalIn, run_underlying hi, run_underlying hn, typeInfo, hinfo, hcomp]
theorem run_eql_iface_int {ti tn : TypeId} {ms : Array (String × TypeId)} {i : TypeInfo} {k : IntKind} (a b : Int)
    (hi : P.underlying ti = some (.interface ms)) (hn : P.underlying tn = some (.int k)) (hinfo : P.info? tn = some i) (hcomp : i.comparable = true) :
    (binOp .eql ti (.iface tn (.int k a)) (.iface tn (.int k b))).run P w = .ok (.bool (a == b)) w := by
  simp only [binOp]
  simp [Op.equal, Op.maxDepth, run_equalIn_iface_int w 9998 a b hi hn hinfo hcomp]
end

theorem Tryd.eqCode (a b : Int) (w : World) : (binOp .eql 35 (.iface 43 (.int .i64 a)) (.iface 43 (.int .i64 b))).run Tryd.prog w = .ok (.bool (a == b)) w :=
  run_eql_iface_int (P := Tryd.prog) w a b Tryd.underlying35 Tryd.underlying43 (i := Tryd.t43) (by kernel_rfl) (by kernel_rfl)

/-- In a world of which a region has made more, and drawn. -/
theorem regrown_trans {w : World} {B : Nat} {W : World} (h : Below B w W) (hB : B ≤ W.heap.size) (d : Nat) (os : Array Obj) : Below B w (Go.Sort.grow (redrawn W d) os) := h.trans ((below_regrown W d os).mono hB)
end Go.Proofs.YtelndcmfddbgiaaDoor
