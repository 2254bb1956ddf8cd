/- What prop's Check and Value stand on (from stage 6). -/
import Derived.WalkKit
import Derived.Deep.AppendSrc
import Derived.Lib.Hide
import Derived.Below
import Derived.Laws.AppendOwn
import Derived.Test.YtelndcmfddbgiaaDoorProg
import Derived.RegionTactic
import Derived.BigQuiet
import Derived.Deep.RegionWith
import Derived.Laws.MakeOwn
import Derived.LaidEql
import Derived.Lib.QuietBelow
set_option linter.unusedVariables false
set_option linter.unusedSimpArgs false
set_option linter.unusedVariables false
set_option linter.unusedSimpArgs false
namespace Go.Proofs.YtelndcmfddbgiaaDoor.Prp
set_option maxRecDepth 100000
open Go.RowKit

def inR (n : Nat) (l : Int) : Prop := l ≠ 0 ∧ -(n : Int) ≤ l ∧ l ≤ n
def Nums (B : Nat) (w : World) (a : Option Addr) (zs : List Int) : Prop :=
  ∀ i, i < zs.length → ∃ b off, a = some ⟨b, off, none⟩ ∧ b < B ∧ w.cell? ⟨b, off + i, none⟩ = some (.int .i64 (zs.getD i 0))
theorem Nums.mono {B B' : Nat} {w : World} {a : Option Addr} {l : List Int} (h : Nums B w a l) (hb : B ≤ B') : Nums B' w a l := fun i hi => by
  obtain ⟨b, off, ha, hlt, h1⟩ := h i hi
  exact ⟨b, off, ha, Nat.lt_of_lt_of_le hlt hb, h1⟩
theorem Nums.below {B : Nat} {w w' : World} {a : Option Addr} {l : List Int} (h : Nums B w a l) (hb : Below B w w') : Nums B w' a l := fun i hi => by
  obtain ⟨b, off, ha, hlt, h1⟩ := h i hi
  exact ⟨b, off, ha, hlt, by rw [hb.cell (p := ⟨b, _, none⟩) hlt]; exact h1⟩
/-- Clauses that lie in memory. -/
def CLies (B : Nat) (w : World) (a : Option Addr) (cs : List (List Int)) : Prop :=
  ∀ i, i < cs.length → ∃ b off ta tcap, a = some ⟨b, off, none⟩ ∧ b < B ∧ w.cell? ⟨b, off + i, none⟩ = some (.slice ta (cs.getD i []).length tcap) ∧ Nums B w ta (cs.getD i [])
theorem CLies.mono {B B' : Nat} {w : World} {a : Option Addr} {cs : List (List Int)} (h : CLies B w a cs) (hb : B ≤ B') : CLies B' w a cs := fun i hi => by
  obtain ⟨b, off, ta, tcap, ha, hlt, h1, h2⟩ := h i hi
  exact ⟨b, off, ta, tcap, ha, Nat.lt_of_lt_of_le hlt hb, h1, h2.mono hb⟩
theorem CLies.below {B : Nat} {w w' : World} {a : Option Addr} {cs : List (List Int)} (h : CLies B w a cs) (hb : Below B w w') : CLies B w' a cs := fun i hi => by
  obtain ⟨b, off, ta, tcap, ha, hlt, h1, h2⟩ := h i hi
  exact ⟨b, off, ta, tcap, ha, hlt, by rw [hb.cell (p := ⟨b, _, none⟩) hlt]; exact h1, h2.below hb⟩
def litB (n : Int) (l : Int) : Bool := decide (l ≠ 0 ∧ -n ≤ l ∧ l ≤ n)
def litsB (n : Int) (c : List Int) : Bool := c.all (litB n)
theorem litsB_iff {n : Nat} {c : List Int} : litsB n c = true ↔ ∀ x, x ∈ c → inR n x := by
  unfold litsB litB inR
  simp
theorem bad_any (l n : Int) (g : Nat) (w : World) (hn : 0 ≤ n ∧ n ≤ 8192) (hg : w.cell? ⟨g, 0, none⟩ = some (.int .i64 n)) :
    Calls Tryd.prog 65 #[.int .i64 l, .pointer (some ⟨g, 0, none⟩)] w fun e w' => e = .returned (.bool (!litB n l)) ∧ w = w' := by
  have hw : IntKind.i64.wrap (-n) = -n := IntWalk.i64_in _ (by omega)
  by_cases h0 : l = 0
  · have e : litB n l = false := by unfold litB; simp [h0]
    rw [e]
    subst h0
    go_enter Tryd.func65, Tryd.ntmps65
    go_wp2_with fail
    go_ret
    exact ⟨rfl, rfl⟩
  · have h00 : (l == 0) = false := by simp [h0]
    by_cases h1 : l < -n
    · have e : litB n l = false := by unfold litB; simp; omega
      rw [e]
      go_enter Tryd.func65, Tryd.ntmps65
      go_wp2_with fail
      go_ret
      exact ⟨rfl, rfl⟩
    · by_cases h2 : n < l
      · have e : litB n l = false := by unfold litB; simp; omega
        rw [e]
        go_enter Tryd.func65, Tryd.ntmps65
        go_wp2_with fail
        go_ret
        exact ⟨rfl, rfl⟩
      · have e : litB n l = true := by unfold litB; simp; omega
        rw [e]
        go_enter Tryd.func65, Tryd.ntmps65
        go_wp2_with fail
        go_ret
        exact ⟨rfl, rfl⟩
theorem getD_mem {c : List Int} {j : Nat} (h : j < c.length) : c.getD j 0 ∈ c := by rw [List.getD_eq_getElem?_getD, List.getElem?_eq_getElem h]; exact List.getElem_mem h
set_option maxHeartbeats 1000000 in
theorem some_bad (n : Int) (hn : 0 ≤ n ∧ n ≤ 8192) (g : Nat) (a : Option Addr) (k cap : Nat) (c : List Int) (w : World) (hk : c.length = k) (hkm : k ≤ 9223372036854775807) (hl : Nums w.heap.size w a c) (hg : w.cell? ⟨g, 0, none⟩ = some (.int .i64 n)) :
    Calls Tryd.prog 39 #[.slice a k cap, .func (.func 65) #[] #[.pointer (some ⟨g, 0, none⟩)]] w fun e w' => e = .returned (.bool (!litsB n c)) ∧ w = w' := by
  have HL := Lib.hid hl
  have HK := Lib.hid hk
  have HB := Lib.hid (fun l => bad_any l n g w hn hg)
  have HYES : Hid (∀ j, j < k → litB n (c.getD j 0) = false → (!litsB n c) = true) := fun j hj h => by
    have : litsB n c = false := by
      cases e : litsB n c
      · rfl
      · have := List.all_eq_true.1 e _ (getD_mem (by rw [hk]; exact hj)); rw [h] at this; cases this
    rw [this]; rfl
  have HNO : Hid ((∀ j, j < k → litB n (c.getD j 0) = true) → (!litsB n c) = false) := fun h => by
    have : litsB n c = true := List.all_eq_true.2 fun x hx => by
      obtain ⟨i, hi, rfl⟩ := List.getElem_of_mem hx
      have := h i (by omega)
      rwa [List.getD_eq_getElem?_getD, List.getElem?_eq_getElem hi] at this
    rw [this]; rfl
  clear hl hk hg
  generalize (!litsB n c) = r at HYES HNO
  go_enter Tryd.func39, Tryd.ntmps39
  go_wp2_with fail
  go_loop [9] (fun i => ∃ j : Nat, j ≤ k ∧ i = .int .i64 j ∧ Hid (∀ i, i < j → litB n (c.getD i 0) = true)) (fun i => k - (intOf i).toNat)
  case atStart => exact ⟨0, Nat.zero_le _, rfl, fun i hi => absurd hi (Nat.not_lt_zero _)⟩
  case round =>
    obtain ⟨j, hj, rfl, hal⟩ := hrel
    by_cases hlt : j < k
    · obtain ⟨b, off, rfl, hblt, c1⟩ := HL.out j (by rw [HK.out]; exact hlt)
      have HC := Lib.hid (HB.out (c.getD j 0))
      have HY := Lib.hid (HYES.out j hlt)
      have HST : Hid (litB n (c.getD j 0) = true → ∀ i, i < j + 1 → litB n (c.getD i 0) = true) := fun h i hi => by
        by_cases e : i = j
        · subst e; exact h
        · exact hal.out i (by omega)
      generalize c.getD j 0 = l at c1 HC HY HST
      cases hb : litB n l
      · have hr := HY.out hb
        rw [hb] at HC
        clear HST HY HYES HNO
        go_wp2_with (first | (go_at_call 65; refine HC.out.mono ?_; rintro e w' ⟨rfl, rfl⟩))
        go_ret
        exact ⟨by rw [hr]; rfl, rfl⟩
      · have hs := Lib.hid (HST.out hb)
        rw [hb] at HC
        clear HST HY HYES HNO
        go_wp2_with (first | (go_at_call 65; refine HC.out.mono ?_; rintro e w' ⟨rfl, rfl⟩))
        go_round
        case rel => exact ⟨j + 1, by omega, by go_num, hs⟩
        case measure => simp [intOf]; omega
    · obtain rfl : j = k := by omega
      have hr := HNO.out hal.out
      clear HYES HNO hal
      go_wp2_with fail
      go_ret
      exact ⟨rfl, rfl⟩
theorem sound_any (n : Int) (hn : 0 ≤ n ∧ n ≤ 8192) (a : Option Addr) (k cap : Nat) (c : List Int) (w : World) (hk : c.length = k) (hkm : k ≤ 9223372036854775807) (hl : Nums w.heap.size w a c) :
    Calls Tryd.prog 46 #[.int .i64 n, .slice a k cap] w fun e w' => e = .returned (.bool (litsB n c)) ∧ Below w.heap.size w w' := by
  have hb : Below w.heap.size w (w.alloc (.cells #[.int .i64 n] 3)) := (Below.refl _ w).alloc (Nat.le_refl _) _
  have hnw := heap_alloc_new w (.cells #[.int .i64 n] 3)
  have HS := Lib.hid (some_bad n hn w.heap.size a k cap c (w.alloc (.cells #[.int .i64 n] 3)) hk hkm ((hl.below hb).mono hb.size) ((cell_of_row _ _ _ _ _ _ hnw).trans rfl))
  have HB := Lib.hid hb
  clear hl hk hb hnw
  go_enter Tryd.func46, Tryd.ntmps46
  go_wp2_with fail
  refine HS.out.mono ?_
  rintro e w' ⟨rfl, rfl⟩
  go_wp2_with fail
  go_ret
  exact ⟨by simp, HB.out⟩
/-- The number of an error, as an error. -/
def codeV (k : Int) : Value := if k = 0 then .nilIface else .iface 43 (.int .i64 k)
def sumTo (cs : List (List Int)) : Nat → Nat
  | 0 => 0
  | k + 1 => sumTo cs k + (cs.getD k []).length
theorem sumTo_mono (cs : List (List Int)) {j k : Nat} (h : j ≤ k) : sumTo cs j ≤ sumTo cs k := by
  induction h with
  | refl => exact Nat.le_refl _
  | step _ ih => exact Nat.le_trans ih (Nat.le_add_right _ _)
def chkK (n : Int) (cs : List (List Int)) : Int :=
  if n < 0 ∨ 8192 < n then 1 else if 16384 < cs.length then 2 else if 131072 < sumTo cs cs.length then 2 else if cs.all (litsB n) = true then 0 else 5
theorem chkK_in (n : Int) (cs : List (List Int)) : 0 ≤ chkK n cs ∧ chkK n cs ≤ 5 := by unfold chkK; repeat (first | split | omega)
theorem all_get {n : Int} {cs : List (List Int)} : cs.all (litsB n) = true ↔ ∀ j, j < cs.length → litsB n (cs.getD j []) = true := by
  constructor
  · intro h j hj
    rw [List.getD_eq_getElem?_getD, List.getElem?_eq_getElem hj]
    exact List.all_eq_true.1 h _ (List.getElem_mem hj)
  · intro h
    refine List.all_eq_true.2 fun c hc => ?_
    obtain ⟨i, hi, rfl⟩ := List.getElem_of_mem hc
    have := h i hi
    rwa [List.getD_eq_getElem?_getD, List.getElem?_eq_getElem hi] at this
set_option maxRecDepth 100000 in
set_option maxHeartbeats 2000000 in
theorem check_any (n : Int) (a : Option Addr) (m cap : Nat) (cs : List (List Int)) (w : World) (hm : cs.length = m) (hmm : m ≤ 9223372036854775807) (hl : CLies w.heap.size w a cs) (hk : m ≤ 16384 → ∀ j, j < m → (cs.getD j []).length ≤ 4611686018427387904) :
    Calls Tryd.prog 25 #[.int .i64 n, .slice a m cap] w fun e w' => e = .returned (codeV (chkK n cs)) ∧ Below w.heap.size w w' := by
  by_cases h1 : n < 0 ∨ 8192 < n
  · have e : codeV (chkK n cs) = .iface 43 (.int .i64 1) := by unfold chkK; rw [if_pos h1]; rfl
    rw [e]
    by_cases h2 : n < 0
    · go_enter Tryd.func25, Tryd.ntmps25
      go_wp2_with fail
      go_ret
      exact ⟨rfl, Below.refl _ _⟩
    · have h3 : 8192 < n := by omega
      go_enter Tryd.func25, Tryd.ntmps25
      go_wp2_with fail
      go_ret
      exact ⟨rfl, Below.refl _ _⟩
  · have h2 : ¬ n < 0 := by omega
    have h3 : ¬ 8192 < n := by omega
    by_cases h4 : 16384 < m
    · have e : codeV (chkK n cs) = .iface 43 (.int .i64 2) := by unfold chkK; rw [if_neg h1, if_pos (by omega)]; rfl
      rw [e]
      go_enter Tryd.func25, Tryd.ntmps25
      go_wp2_with fail
      go_ret
      exact ⟨rfl, Below.refl _ _⟩
    · have hk := hk (by omega)
      have HE : Hid (chkK n cs = if 131072 < sumTo cs m then 2 else if cs.all (litsB n) = true then 0 else 5) := by
        show _ = _
        unfold chkK; rw [if_neg h1, if_neg (by omega), hm]
      have HL := Lib.hid hl
      have HM := Lib.hid hm
      have HK := Lib.hid hk
      have HS := Lib.hid (fun W j (hj : j < m) (hb : Below w.heap.size w W) (ta : Option Addr) (tcap : Nat) (hn9 : Nums w.heap.size w ta (cs.getD j [])) => sound_any n ⟨by omega, by omega⟩ ta (cs.getD j []).length tcap (cs.getD j []) W rfl (by have := hk j hj; omega) ((hn9.below hb).mono hb.size))
      generalize hr : chkK n cs = r at HE ⊢
      clear hl hm hk hr h1
      go_enter Tryd.func25, Tryd.ntmps25
      go_wp2_with fail
      go_loop [5, 23] (fun s i => ∃ k : Nat, k ≤ m ∧ i = .int .i64 k ∧ s = .int .i64 (sumTo cs k) ∧ Hid (sumTo cs k ≤ 131072)) (fun _ i => m - (intOf i).toNat)
      case atStart => exact ⟨0, Nat.zero_le _, rfl, rfl, Nat.zero_le _⟩
      case round =>
        obtain ⟨k, hk, rfl, rfl, hs⟩ := hrel
        by_cases hlt : k < m
        · obtain ⟨b, off, ta, tcap, rfl, hblt, c1, _⟩ := HL.out k (by rw [HM.out]; exact hlt)
          have HN : Hid (sumTo cs (k + 1) = sumTo cs k + (cs.getD k []).length) := rfl
          have HMO : Hid (sumTo cs (k + 1) ≤ sumTo cs m) := sumTo_mono cs hlt
          have hkl := HK.out k hlt
          have hs1 := hs.out
          generalize (cs.getD k []).length = len at c1 HN hkl
          generalize sumTo cs k = sk at HN hs1
          by_cases hgt : 131072 < sk + len
          · have hr := HE.out
            rw [if_pos (by have := HN.out; have := HMO.out; omega)] at hr
            subst hr
            clear HE HS HN HMO hs
            have hgt2 : (131072 : Int) < (sk : Int) + (len : Int) := by omega
            go_wp2_with fail
            go_ret
            exact ⟨rfl, Below.refl _ _⟩
          · have HS1 : Hid (sumTo cs (k + 1) ≤ 131072) := by show _ ≤ _; rw [HN.out]; omega
            have hgt2 : ¬ (131072 : Int) < (sk : Int) + (len : Int) := by omega
            clear HE HS HMO hs
            go_wp2_with fail
            go_round
            case rel => exact ⟨k + 1, by omega, by go_num, by rw [HN.out]; go_num, HS1⟩
            case measure => simp [intOf]; omega
        · obtain rfl : k = m := by omega
          have HE2 : Hid (r = if cs.all (litsB n) = true then 0 else 5) := by
            have := HE.out
            rwa [if_neg (by have := hs.out; omega)] at this
          clear HE hs
          go_wp2_with fail
          go_loopw [37] (fun i wr => ∃ j : Nat, j ≤ k ∧ i = .int .i64 j ∧ Hid (∀ q, q < j → litsB n (cs.getD q []) = true) ∧ Hid (Below w.heap.size w wr)) (fun i _ => k - (intOf i).toNat)
          case atStart => exact ⟨0, Nat.zero_le _, rfl, fun q hq => absurd hq (Nat.not_lt_zero _), Below.refl _ _⟩
          case round =>
            obtain ⟨j, hj, rfl, hal, hb⟩ := hrel
            by_cases hlt : j < k
            · obtain ⟨b, off, ta, tcap, rfl, hblt, c1, cn⟩ := HL.out j (by rw [HM.out]; exact hlt)
              rw [← hb.out.cell (p := ⟨b, _, none⟩) hblt] at c1
              have HC := Lib.hid (HS.out wr j hlt hb.out ta tcap cn)
              have HBD := Lib.hid hb.out
              have HY : Hid (litsB n (cs.getD j []) = true → ∀ q, q < j + 1 → litsB n (cs.getD q []) = true) := fun h q hq => by
                by_cases e : q = j
                · subst e; exact h
                · exact hal.out q (by omega)
              have HNO : Hid (litsB n (cs.getD j []) = false → r = 5) := fun h => by
                rw [HE2.out, if_neg]
                intro h9
                have := all_get.1 h9 j (by rw [HM.out]; exact hlt)
                rw [h] at this; cases this
              clear cn hal hb HS HE2
              cases hbb : litsB n (cs.getD j [])
              · obtain rfl := HNO.out hbb
                rw [hbb] at HC
                clear HY HNO hbb
                generalize (cs.getD j []).length = len at c1 HC
                go_wp2_with fail
                refine HC.out.mono ?_
                rintro e w' ⟨rfl, hb'⟩
                have HB9 := Lib.hid (HBD.out.trans (hb'.mono HBD.out.size))
                clear hb' HC
                go_wp2_with fail
                go_ret
                exact ⟨rfl, HB9.out⟩
              · have HY2 := Lib.hid (HY.out hbb)
                rw [hbb] at HC
                clear HY HNO hbb
                generalize (cs.getD j []).length = len at c1 HC
                go_wp2_with fail
                refine HC.out.mono ?_
                rintro e w' ⟨rfl, hb'⟩
                have HB9 := Lib.hid (HBD.out.trans (hb'.mono HBD.out.size))
                clear hb' HC
                go_wp2_with fail
                go_roundw
                case rel => exact ⟨j + 1, by omega, by go_num, HY2, HB9⟩
                case measure => simp [intOf]; omega
            · obtain rfl : j = k := by omega
              have hr := HE2.out
              rw [if_pos (all_get.2 (by rw [HM.out]; exact hal.out))] at hr
              subst hr
              clear HE2 HS hal
              go_wp2_with fail
              go_ret
              exact ⟨rfl, hb.out⟩
set_option maxHeartbeats 1000000 in
theorem lits_any (n : Int) (hn : 0 ≤ n ∧ n ≤ 8192) (a : Option Addr) (k cap : Nat) (c : List Int) (w : World) (hk : c.length = k) (hkm : k ≤ 9223372036854775807) (hl : Nums w.heap.size w a c) :
    Calls Tryd.prog 51 #[.int .i64 n, .slice a k cap] w fun e w' => e = .returned (.bool (litsB n c)) ∧ w = w' := by
  have hw : IntKind.i64.wrap (-n) = -n := IntWalk.i64_in _ (by omega)
  have HL := Lib.hid hl
  have HK := Lib.hid hk
  have HYES : Hid (∀ j, j < k → litB n (c.getD j 0) = false → litsB n c = false) := fun j hj h => by
    cases e : litsB n c
    · rfl
    · have := List.all_eq_true.1 e _ (getD_mem (by rw [hk]; exact hj)); rw [h] at this; cases this
  have HNO : Hid ((∀ j, j < k → litB n (c.getD j 0) = true) → litsB n c = true) := fun h => List.all_eq_true.2 fun x hx => by
    obtain ⟨i, hi, rfl⟩ := List.getElem_of_mem hx
    have := h i (by omega)
    rwa [List.getD_eq_getElem?_getD, List.getElem?_eq_getElem hi] at this
  clear hl hk
  generalize litsB n c = r at HYES HNO
  go_enter Tryd.func51, Tryd.ntmps51
  go_wp2_with fail
  go_loop [5] (fun i => ∃ j : Nat, j ≤ k ∧ i = .int .i64 j ∧ Hid (∀ i, i < j → litB n (c.getD i 0) = true)) (fun i => k - (intOf i).toNat)
  case atStart => exact ⟨0, Nat.zero_le _, rfl, fun i hi => absurd hi (Nat.not_lt_zero _)⟩
  case round =>
    obtain ⟨j, hj, rfl, hal⟩ := hrel
    by_cases hlt : j < k
    · obtain ⟨b, off, rfl, hblt, c1⟩ := HL.out j (by rw [HK.out]; exact hlt)
      have HY := Lib.hid (HYES.out j hlt)
      have HST : Hid (litB n (c.getD j 0) = true → ∀ i, i < j + 1 → litB n (c.getD i 0) = true) := fun h i hi => by
        by_cases e : i = j
        · subst e; exact h
        · exact hal.out i (by omega)
      generalize c.getD j 0 = l at c1 HY HST
      by_cases h0 : l = 0
      · obtain rfl := HY.out (by unfold litB; simp [h0])
        subst h0
        clear HYES HNO HY HST hal
        go_wp2_with fail
        go_ret
        exact ⟨rfl, rfl⟩
      · have h00 : (l == 0) = false := by simp [h0]
        by_cases h1 : n < l
        · obtain rfl := HY.out (by unfold litB; simp; omega)
          clear HYES HNO HY HST hal
          go_wp2_with fail
          go_ret
          exact ⟨rfl, rfl⟩
        · by_cases h2 : l < -n
          · obtain rfl := HY.out (by unfold litB; simp; omega)
            clear HYES HNO HY HST hal
            go_wp2_with fail
            go_ret
            exact ⟨rfl, rfl⟩
          · have hs := Lib.hid (HST.out (by unfold litB; simp; omega))
            clear HYES HNO HY HST hal
            go_wp2_with fail
            go_round
            case rel => exact ⟨j + 1, by omega, by go_num, hs⟩
            case measure => simp [intOf]; omega
    · obtain rfl : j = k := by omega
      obtain rfl := HNO.out hal.out
      clear HYES HNO hal
      go_wp2_with fail
      go_ret
      exact ⟨rfl, rfl⟩
set_option maxRecDepth 100000 in
set_option maxHeartbeats 2000000 in
theorem rcheck_any (n : Int) (a : Option Addr) (m cap : Nat) (cs : List (List Int)) (w : World) (hm : cs.length = m) (hmm : m ≤ 9223372036854775807) (hl : CLies w.heap.size w a cs) (hk : m ≤ 16384 → ∀ j, j < m → (cs.getD j []).length ≤ 4611686018427387904) :
    Calls Tryd.prog 29 #[.int .i64 n, .slice a m cap] w fun e w' => e = .returned (.int .i64 (chkK n cs)) ∧ w = w' := by
  by_cases h1 : n < 0 ∨ 8192 < n
  · have e : chkK n cs = 1 := by unfold chkK; rw [if_pos h1]
    rw [e]
    by_cases h2 : n < 0
    · go_enter Tryd.func29, Tryd.ntmps29
      go_wp2_with fail
      go_ret
      exact ⟨rfl, rfl⟩
    · have h3 : 8192 < n := by omega
      go_enter Tryd.func29, Tryd.ntmps29
      go_wp2_with fail
      go_ret
      exact ⟨rfl, rfl⟩
  · have h2 : ¬ n < 0 := by omega
    have h3 : ¬ 8192 < n := by omega
    by_cases h4 : 16384 < m
    · have e : chkK n cs = 2 := by unfold chkK; rw [if_neg h1, if_pos (by omega)]
      rw [e]
      go_enter Tryd.func29, Tryd.ntmps29
      go_wp2_with fail
      go_ret
      exact ⟨rfl, rfl⟩
    · have hk := hk (by omega)
      have HE : Hid (chkK n cs = if 131072 < sumTo cs m then 2 else if cs.all (litsB n) = true then 0 else 5) := by
        show _ = _
        unfold chkK; rw [if_neg h1, if_neg (by omega), hm]
      have HL := Lib.hid hl
      have HM := Lib.hid hm
      have HK := Lib.hid hk
      have HS := Lib.hid (fun j (hj : j < m) (ta : Option Addr) (tcap : Nat) (hn9 : Nums w.heap.size w ta (cs.getD j [])) => lits_any n ⟨by omega, by omega⟩ ta (cs.getD j []).length tcap (cs.getD j []) w rfl (by have := hk j hj; omega) hn9)
      generalize hr : chkK n cs = r at HE ⊢
      clear hl hm hk hr h1
      go_enter Tryd.func29, Tryd.ntmps29
      go_wp2_with fail
      go_loop [5, 6] (fun s i => ∃ k : Nat, k ≤ m ∧ i = .int .i64 k ∧ s = .int .i64 (131072 - (sumTo cs k : Int)) ∧ Hid (sumTo cs k ≤ 131072)) (fun _ i => m - (intOf i).toNat)
      case atStart => exact ⟨0, Nat.zero_le _, rfl, rfl, Nat.zero_le _⟩
      case round =>
        obtain ⟨k, hk, rfl, rfl, hs⟩ := hrel
        by_cases hlt : k < m
        · obtain ⟨b, off, ta, tcap, rfl, hblt, c1, _⟩ := HL.out k (by rw [HM.out]; exact hlt)
          have HN : Hid (sumTo cs (k + 1) = sumTo cs k + (cs.getD k []).length) := rfl
          have HMO : Hid (sumTo cs (k + 1) ≤ sumTo cs m) := sumTo_mono cs hlt
          have hkl := HK.out k hlt
          have hs1 := hs.out
          generalize (cs.getD k []).length = len at c1 HN hkl
          generalize sumTo cs k = sk at HN hs1
          by_cases hgt : 131072 < sk + len
          · have hr := HE.out
            rw [if_pos (by have := HN.out; have := HMO.out; omega)] at hr
            subst hr
            clear HE HS HN HMO hs
            have hgt2 : 131072 - (sk : Int) < (len : Int) := by omega
            go_wp2_with fail
            go_ret
            exact ⟨rfl, rfl⟩
          · have HS1 : Hid (sumTo cs (k + 1) ≤ 131072) := by show _ ≤ _; rw [HN.out]; omega
            have hgt2 : ¬ 131072 - (sk : Int) < (len : Int) := by omega
            clear HE HS HMO hs
            go_wp2_with fail
            go_round
            case rel => exact ⟨k + 1, by omega, by go_num, by rw [HN.out]; congr 1; omega, HS1⟩
            case measure => simp [intOf]; omega
        · obtain rfl : k = m := by omega
          have HE2 : Hid (r = if cs.all (litsB n) = true then 0 else 5) := by
            have := HE.out
            rwa [if_neg (by have := hs.out; omega)] at this
          clear HE hs
          go_wp2_with fail
          go_loop [7] (fun i => ∃ j : Nat, j ≤ k ∧ i = .int .i64 j ∧ Hid (∀ q, q < j → litsB n (cs.getD q []) = true)) (fun i => k - (intOf i).toNat)
          case atStart => exact ⟨0, Nat.zero_le _, rfl, fun q hq => absurd hq (Nat.not_lt_zero _)⟩
          case round =>
            obtain ⟨j, hj, rfl, hal⟩ := hrel
            by_cases hlt : j < k
            · obtain ⟨b, off, ta, tcap, rfl, hblt, c1, cn⟩ := HL.out j (by rw [HM.out]; exact hlt)
              have HC := Lib.hid (HS.out j hlt ta tcap cn)
              have HY : Hid (litsB n (cs.getD j []) = true → ∀ q, q < j + 1 → litsB n (cs.getD q []) = true) := fun h q hq => by
                by_cases e : q = j
                · subst e; exact h
                · exact hal.out q (by omega)
              have HNO : Hid (litsB n (cs.getD j []) = false → r = 5) := fun h => by
                rw [HE2.out, if_neg]
                intro h9
                have := all_get.1 h9 j (by rw [HM.out]; exact hlt)
                rw [h] at this; cases this
              clear cn hal HS HE2
              cases hbb : litsB n (cs.getD j [])
              · obtain rfl := HNO.out hbb
                rw [hbb] at HC
                clear HY HNO hbb
                generalize (cs.getD j []).length = len at c1 HC
                go_wp2_with fail
                refine HC.out.mono ?_
                rintro e w' ⟨rfl, rfl⟩
                go_wp2_with fail
                go_ret
                exact ⟨rfl, rfl⟩
              · have HY2 := Lib.hid (HY.out hbb)
                rw [hbb] at HC
                clear HY HNO hbb
                generalize (cs.getD j []).length = len at c1 HC
                go_wp2_with fail
                refine HC.out.mono ?_
                rintro e w' ⟨rfl, rfl⟩
                go_wp2_with fail
                go_round
                case rel => exact ⟨j + 1, by omega, by go_num, HY2⟩
                case measure => simp [intOf]; omega
            · obtain rfl : j = k := by omega
              have hr := HE2.out
              rw [if_pos (all_get.2 (by rw [HM.out]; exact hal.out))] at hr
              subst hr
              clear HE2 HS hal
              go_wp2_with fail
              go_ret
              exact ⟨rfl, rfl⟩
theorem run_equalIn_iface_int {P : Program} (w : World) (d : Nat) {ti tn : TypeId} {ms : Array (String × TypeId)} {i : TypeInfo} {k : IntKind} (a b : Int)
    (hi : P.underlying ti = some (.interface ms)) (hn : P.underlying tn = some (.int k)) (hinfo : P.info? tn = some i) (hcomp : i.comparable = true) :
    (Op.equalIn (d + 2) ti (.iface tn (.int k a)) (.iface tn (.int k b))).run P w = .ok (a == b) w := by
  simp [Op.equalIn, run_underlying hi, run_underlying hn, typeInfo, hinfo, hcomp]
theorem run_eql_iface_int {P : Program} (w : World) {ti tn : TypeId} {ms : Array (String × TypeId)} {i : TypeInfo} {k : IntKind} (a b : Int)
    (hi : P.underlying ti = some (.interface ms)) (hn : P.underlying tn = some (.int k)) (hinfo : P.info? tn = some i) (hcomp : i.comparable = true) :
    (binOp .eql ti (.iface tn (.int k a)) (.iface tn (.int k b))).run P w = .ok (.bool (a == b)) w := by
  simp only [binOp]
  simp [Op.equal, Op.maxDepth, run_equalIn_iface_int w 9998 a b hi hn hinfo hcomp]
theorem Tryd.eqCode (a b : Int) (w : World) : (binOp .eql 35 (.iface 43 (.int .i64 a)) (.iface 43 (.int .i64 b))).run Tryd.prog w = .ok (.bool (a == b)) w :=
  run_eql_iface_int (P := Tryd.prog) w a b Tryd.underlying35 Tryd.underlying43 (i := Tryd.t43) (by kernel_rfl) (by kernel_rfl)
set_option maxHeartbeats 400000 in
theorem code_nil (w : World) : Calls Tryd.prog 11 #[.nilIface] w fun e w' => e = .returned (.int .i64 0) ∧ w = w' := by
  go_enter Tryd.func11, Tryd.ntmps11
  go_wp2
  go_ret
  exact ⟨rfl, rfl⟩
set_option maxHeartbeats 800000 in
theorem code_k (k : Int) (w : World) (h1 : 1 ≤ k) (h2 : k ≤ 16) : Calls Tryd.prog 11 #[.iface 43 (.int .i64 k)] w fun e w' => e = .returned (.int .i64 k) ∧ w = w' := by
  have heq := fun (j : Int) W => Tryd.eqCode k j W
  go_enter Tryd.func11, Tryd.ntmps11
  go_wp2
  go_loop [3] (fun c => ∃ j : Int, 1 ≤ j ∧ j ≤ k ∧ c = .int .i64 j) (fun c => (k - intOf c).toNat)
  case atStart => exact ⟨1, by omega, h1, rfl⟩
  case round =>
    obtain ⟨j, hj1, hj2, rfl⟩ := hrel
    by_cases e : j = k
    · subst e
      have hb : (j == j) = true := by simp
      go_wp2
      go_ret
      exact ⟨rfl, rfl⟩
    · have hb : (k == j) = false := by simp; omega
      go_wp2
      go_round
      case rel => exact ⟨j + 1, by omega, by omega, rfl⟩
      case measure => simp [intOf]; omega
theorem code_any (x : Int) (w : World) (hx : 0 ≤ x ∧ x ≤ 16) : Calls Tryd.prog 11 #[codeV x] w fun e w' => e = .returned (.int .i64 x) ∧ w = w' := by
  by_cases h0 : x = 0
  · subst h0; exact code_nil w
  · rw [show codeV x = .iface 43 (.int .i64 x) from if_neg h0]; exact code_k x w (by omega) (by omega)
def Bools (B : Nat) (w : World) (a : Option Addr) (vs : List Bool) : Prop :=
  ∀ i, i < vs.length → ∃ b off, a = some ⟨b, off, none⟩ ∧ b < B ∧ w.cell? ⟨b, off + i, none⟩ = some (.bool (vs.getD i false))
theorem Bools.mono {B B' : Nat} {w : World} {a : Option Addr} {l : List Bool} (h : Bools B w a l) (hb : B ≤ B') : Bools B' w a l := fun i hi => by
  obtain ⟨b, off, ha, hlt, h1⟩ := h i hi
  exact ⟨b, off, ha, Nat.lt_of_lt_of_le hlt hb, h1⟩
theorem Bools.below {B : Nat} {w w' : World} {a : Option Addr} {l : List Bool} (h : Bools B w a l) (hb : Below B w w') : Bools B w' a l := fun i hi => by
  obtain ⟨b, off, ha, hlt, h1⟩ := h i hi
  exact ⟨b, off, ha, hlt, by rw [hb.cell (p := ⟨b, _, none⟩) hlt]; exact h1⟩
/-- Is a literal true? -/
def litV (vs : List Bool) (l : Int) : Bool := if 0 < l then decide (l ≤ vs.length) && vs.getD (l - 1).toNat false else decide (l < 0 ∧ -(vs.length : Int) ≤ l) && !vs.getD (-l - 1).toNat false
/-- The ways to reckon it. -/
inductive LitWay (vs : List Bool) (l : Int) (r : Bool) : Prop
  | zero : l = 0 → r = false → LitWay vs l r
  | far : 0 < l → (vs.length : Int) < l → r = false → LitWay vs l r
  | pos (k : Nat) (b : Bool) : l = (k : Int) + 1 → k < vs.length → vs.getD k false = b → r = b → LitWay vs l r
  | nfar : l < 0 → l < -(vs.length : Int) → r = false → LitWay vs l r
  | neg (k : Nat) (b : Bool) : l = -((k : Int) + 1) → k < vs.length → vs.getD k false = b → r = (!b) → LitWay vs l r
theorem lit_way (vs : List Bool) (l : Int) : LitWay vs l (litV vs l) := by
  unfold litV
  by_cases h : 0 < l
  · by_cases h2 : l ≤ vs.length
    · refine .pos (l - 1).toNat _ (by omega) (by omega) rfl ?_
      rw [if_pos h, decide_eq_true h2]; simp
    · refine .far h (by omega) ?_
      rw [if_pos h, decide_eq_false h2]; simp
  · by_cases h0 : l = 0
    · refine .zero h0 ?_
      rw [if_neg h, decide_eq_false (by omega)]; simp
    · by_cases h2 : -(vs.length : Int) ≤ l
      · refine .neg (-l - 1).toNat _ (by omega) (by omega) rfl ?_
        rw [if_neg h, decide_eq_true ⟨by omega, h2⟩]; simp
      · refine .nfar (by omega) (by omega) ?_
        rw [if_neg h, decide_eq_false (by omega)]; simp
set_option maxHeartbeats 1000000 in
theorem is_any (l : Int) (g : Nat) (a : Option Addr) (k cap : Nat) (vs : List Bool) (w : World) (hk : vs.length = k) (hkm : k ≤ 9223372036854775807) (hv : Bools w.heap.size w a vs) (hg : w.cell? ⟨g, 0, none⟩ = some (.slice a k cap)) :
    Calls Tryd.prog 38 #[.int .i64 l, .pointer (some ⟨g, 0, none⟩)] w fun e w' => e = .returned (.bool (litV vs l)) ∧ w = w' := by
  have hw1 : IntKind.i64.wrap (-(k : Int)) = -(k : Int) := IntWalk.i64_in _ (by omega)
  cases lit_way vs l with
  | zero h0 hr =>
    rw [hr]; subst h0
    clear hr hv
    go_enter Tryd.func38, Tryd.ntmps38
    go_wp2_with fail
    go_ret
    exact ⟨rfl, rfl⟩
  | far h1 h2 hr =>
    rw [hr]; rw [hk] at h2
    clear hr hv
    go_enter Tryd.func38, Tryd.ntmps38
    go_wp2_with fail
    go_ret
    exact ⟨rfl, rfl⟩
  | pos j b h1 h2 h3 hr =>
    obtain ⟨b2, off, rfl, hlt, c⟩ := hv j h2
    rw [h3] at c
    rw [hr]; rw [hk] at h2
    subst h1
    have hp : 0 < (j : Int) + 1 := by omega
    have hle : (j : Int) + 1 ≤ (k : Int) := by omega
    have hsb : IntKind.i64.wrap ((j : Int) + 1 - 1) = (j : Int) := by rw [show (j : Int) + 1 - 1 = j by omega]; exact IntWalk.i64_in _ (by omega)
    have hjk : (j : Int) < (k : Int) := by omega
    clear hr hv h3
    go_enter Tryd.func38, Tryd.ntmps38
    go_wp2_with fail
    go_ret
    exact ⟨rfl, rfl⟩
  | nfar h1 h2 hr =>
    rw [hr]; rw [hk] at h2
    clear hr hv
    go_enter Tryd.func38, Tryd.ntmps38
    go_wp2_with fail
    go_ret
    exact ⟨rfl, rfl⟩
  | neg j b h1 h2 h3 hr =>
    obtain ⟨b2, off, rfl, hlt, c⟩ := hv j h2
    rw [h3] at c
    rw [hr]; rw [hk] at h2
    subst h1
    have hp : -((j : Int) + 1) < 0 := by omega
    have hle : -(k : Int) ≤ -((j : Int) + 1) := by omega
    have hjk : (j : Int) < (k : Int) := by omega
    clear hr hv h3
    go_enter Tryd.func38, Tryd.ntmps38
    go_wp2_with fail
    go_ret
    exact ⟨rfl, rfl⟩
def anyV (vs : List Bool) (c : List Int) : Bool := c.any (litV vs)
def valB (cs : List (List Int)) (vs : List Bool) : Bool := cs.all (anyV vs)
set_option maxHeartbeats 1000000 in
theorem some_is (g : Nat) (a2 : Option Addr) (k2 cap2 : Nat) (vs : List Bool) (a : Option Addr) (k cap : Nat) (c : List Int) (w : World) (hk : c.length = k) (hkm : k ≤ 9223372036854775807) (hl : Nums w.heap.size w a c) (hk2 : vs.length = k2) (hkm2 : k2 ≤ 9223372036854775807) (hv : Bools w.heap.size w a2 vs) (hg : w.cell? ⟨g, 0, none⟩ = some (.slice a2 k2 cap2)) :
    Calls Tryd.prog 39 #[.slice a k cap, .func (.func 38) #[] #[.pointer (some ⟨g, 0, none⟩)]] w fun e w' => e = .returned (.bool (anyV vs c)) ∧ w = w' := by
  have HL := Lib.hid hl
  have HK := Lib.hid hk
  have HB := Lib.hid (fun l => is_any l g a2 k2 cap2 vs w hk2 hkm2 hv hg)
  have HYES : Hid (∀ j, j < k → litV vs (c.getD j 0) = true → anyV vs c = true) := fun j hj h => List.any_eq_true.2 ⟨_, getD_mem (by rw [hk]; exact hj), h⟩
  have HNO : Hid ((∀ j, j < k → litV vs (c.getD j 0) = false) → anyV vs c = false) := fun h => List.any_eq_false.2 fun x hx => by
    obtain ⟨i, hi, rfl⟩ := List.getElem_of_mem hx
    have := h i (by omega)
    rw [List.getD_eq_getElem?_getD, List.getElem?_eq_getElem hi, Option.getD_some] at this
    rw [this]; decide
  clear hl hk hg hv hk2
  generalize anyV vs c = r at HYES HNO
  go_enter Tryd.func39, Tryd.ntmps39
  go_wp2_with fail
  go_loop [9] (fun i => ∃ j : Nat, j ≤ k ∧ i = .int .i64 j ∧ Hid (∀ i, i < j → litV vs (c.getD i 0) = false)) (fun i => k - (intOf i).toNat)
  case atStart => exact ⟨0, Nat.zero_le _, rfl, fun i hi => absurd hi (Nat.not_lt_zero _)⟩
  case round =>
    obtain ⟨j, hj, rfl, hal⟩ := hrel
    by_cases hlt : j < k
    · obtain ⟨b, off, rfl, hblt, c1⟩ := HL.out j (by rw [HK.out]; exact hlt)
      have HC := Lib.hid (HB.out (c.getD j 0))
      have HY := Lib.hid (HYES.out j hlt)
      have HST : Hid (litV vs (c.getD j 0) = false → ∀ i, i < j + 1 → litV vs (c.getD i 0) = false) := fun h i hi => by
        by_cases e : i = j
        · subst e; exact h
        · exact hal.out i (by omega)
      generalize c.getD j 0 = l at c1 HC HY HST
      cases hb : litV vs l
      · have hs := Lib.hid (HST.out hb)
        rw [hb] at HC
        clear HST HY HYES HNO hb hal
        go_wp2_with (first | (go_at_call 38; refine HC.out.mono ?_; rintro e w' ⟨rfl, rfl⟩))
        go_round
        case rel => exact ⟨j + 1, by omega, by go_num, hs⟩
        case measure => simp [intOf]; omega
      · obtain rfl := HY.out hb
        rw [hb] at HC
        clear HST HY HYES HNO hb hal
        go_wp2_with (first | (go_at_call 38; refine HC.out.mono ?_; rintro e w' ⟨rfl, rfl⟩))
        go_ret
        exact ⟨rfl, rfl⟩
    · obtain rfl : j = k := by omega
      obtain rfl := HNO.out hal.out
      clear HYES HNO hal
      go_wp2_with fail
      go_ret
      exact ⟨rfl, rfl⟩
theorem valB_yes {cs : List (List Int)} {vs : List Bool} {j : Nat} (hj : j < cs.length) (h : anyV vs (cs.getD j []) = false) : valB cs vs = false := by
  cases e : valB cs vs
  · rfl
  · have := List.all_eq_true.1 e (cs.getD j []) (by rw [List.getD_eq_getElem?_getD, List.getElem?_eq_getElem hj]; exact List.getElem_mem _)
    rw [h] at this; cases this
theorem valB_no {cs : List (List Int)} {vs : List Bool} (h : ∀ j, j < cs.length → anyV vs (cs.getD j []) = true) : valB cs vs = true := List.all_eq_true.2 fun c hc => by
  obtain ⟨i, hi, rfl⟩ := List.getElem_of_mem hc
  have := h i hi
  rwa [List.getD_eq_getElem?_getD, List.getElem?_eq_getElem hi] at this
set_option maxHeartbeats 1000000 in
theorem pvalue_any (a : Option Addr) (m cap : Nat) (cs : List (List Int)) (a2 : Option Addr) (k2 cap2 : Nat) (vs : List Bool) (w : World) (hm : cs.length = m) (hmm : m ≤ 9223372036854775807) (hl : CLies w.heap.size w a cs) (hlen : ∀ j, j < m → (cs.getD j []).length ≤ 9223372036854775807) (hk2 : vs.length = k2) (hkm2 : k2 ≤ 9223372036854775807) (hv : Bools w.heap.size w a2 vs) :
    Calls Tryd.prog 17 #[.slice a m cap, .slice a2 k2 cap2] w fun e w' => e = .returned (.bool (valB cs vs)) ∧ Below w.heap.size w w' := by
  have hb : Below w.heap.size w (w.alloc (.cells #[.slice a2 k2 cap2] 50)) := (Below.refl _ w).alloc (Nat.le_refl _) _
  have hnw := heap_alloc_new w (.cells #[.slice a2 k2 cap2] 50)
  have hg : (w.alloc (.cells #[.slice a2 k2 cap2] 50)).cell? ⟨w.heap.size, 0, none⟩ = some (.slice a2 k2 cap2) := (cell_of_row _ _ _ _ _ _ hnw).trans rfl
  have HS := Lib.hid (fun j (hj : j < m) (ta : Option Addr) (tcap : Nat) (hn9 : Nums w.heap.size w ta (cs.getD j [])) => some_is w.heap.size a2 k2 cap2 vs ta (cs.getD j []).length tcap (cs.getD j []) (w.alloc (.cells #[.slice a2 k2 cap2] 50)) rfl (hlen j hj) ((hn9.below hb).mono hb.size) hk2 hkm2 ((hv.below hb).mono hb.size) hg)
  have HB := Lib.hid hb
  have HL := Lib.hid hl
  have HM := Lib.hid hm
  have HYES : Hid (∀ j, j < m → anyV vs (cs.getD j []) = false → valB cs vs = false) := fun j hj => valB_yes (by rw [hm]; exact hj)
  have HNO : Hid ((∀ j, j < m → anyV vs (cs.getD j []) = true) → valB cs vs = true) := fun h => valB_no (by rw [hm]; exact h)
  generalize valB cs vs = r at HYES HNO
  clear hl hm hk2 hv hlen hb hnw
  go_enter Tryd.func17, Tryd.ntmps17
  go_wp2_with fail
  go_loop [11] (fun i => ∃ j : Nat, j ≤ m ∧ i = .int .i64 j ∧ Hid (∀ q, q < j → anyV vs (cs.getD q []) = true)) (fun i => m - (intOf i).toNat)
  case atStart => exact ⟨0, Nat.zero_le _, rfl, fun q hq => absurd hq (Nat.not_lt_zero _)⟩
  case round =>
    obtain ⟨j, hj, rfl, hal⟩ := hrel
    by_cases hlt : j < m
    · obtain ⟨b, off, ta, tcap, rfl, hblt, c1, cn⟩ := HL.out j (by rw [HM.out]; exact hlt)
      have c1 := (HB.out.cell (p := ⟨b, off + j, none⟩) hblt).trans c1
      have HC := Lib.hid (HS.out j hlt ta tcap cn)
      have HY := Lib.hid (HYES.out j hlt)
      have HST : Hid (anyV vs (cs.getD j []) = true → ∀ q, q < j + 1 → anyV vs (cs.getD q []) = true) := fun h q hq => by
        by_cases e : q = j
        · subst e; exact h
        · exact hal.out q (by omega)
      clear cn hal HS HYES
      cases hbb : anyV vs (cs.getD j [])
      · obtain rfl := HY.out hbb
        rw [hbb] at HC
        clear HY HST HNO hbb
        generalize (cs.getD j []).length = len at c1 HC
        go_wp2_with fail
        refine HC.out.mono ?_
        rintro e w' ⟨rfl, rfl⟩
        go_wp2_with fail
        go_ret
        exact ⟨rfl, HB.out⟩
      · have HY2 := Lib.hid (HST.out hbb)
        rw [hbb] at HC
        clear HY HST HNO hbb
        generalize (cs.getD j []).length = len at c1 HC
        go_wp2_with fail
        refine HC.out.mono ?_
        rintro e w' ⟨rfl, rfl⟩
        go_wp2_with fail
        go_round
        case rel => exact ⟨j + 1, by omega, by go_num, HY2⟩
        case measure => simp [intOf]; omega
    · obtain rfl : j = m := by omega
      obtain rfl := HNO.out hal.out
      clear HYES HNO hal HS
      go_wp2_with fail
      go_ret
      exact ⟨rfl, HB.out⟩
end Go.Proofs.YtelndcmfddbgiaaDoor.Prp
