/- The document's Lits, Check, Light; trammellaw00.Code. -/
import Derived.Test.YtlnkgemndojdnaaDoorPrpN
import Derived.LaidEql
import Derived.Lib.QuietBelow
set_option linter.unusedVariables false
set_option linter.unusedSimpArgs false
namespace Go.Proofs.YtlnkgemndojdnaaDoor
set_option maxRecDepth 100000
open Go.RowKit

set_option maxHeartbeats 1000000 in
theorem lits_any (n : Int) (hn : 0 ≤ n ∧ n ≤ 8192) (a : Option Addr) (k cap : Nat) (c : List Int) (w : World) (hk : c.length = k) (hkm : k ≤ 9223372036854775807) (hl : Nums w.heap.size w a c) :
    Calls Tryd.prog 29 #[.int .i64 n, .slice a k cap] w fun e w' => e = .returned (.bool (litsB n c)) ∧ w = w' := by
  have hw : IntKind.i64.wrap (-n) = -n := IntWalk.i64_in _ (by omega)
  have HL := Lib.hid hl
  have HK := Lib.hid hk
  have HYES : Hid (∀ j, j < k → litB n (c.getD j 0) = false → litsB n c = false) := fun j hj h => by
    cases e : litsB n c
    · rfl
    · have := List.all_eq_true.1 e _ (getD_mem (by rw [hk]; exact hj)); rw [h] at this; cases this
  have HNO : Hid ((∀ j, j < k → litB n (c.getD j 0) = true) → litsB n c = true) := fun h => List.all_eq_true.2 fun x hx => by
    obtain ⟨i, hi, rfl⟩ := List.getElem_of_mem hx
    have := h i (by omega)
    rwa [List.getD_eq_getElem?_getD, List.getElem?_eq_getElem hi] at this
  clear hl hk
  generalize litsB n c = r at HYES HNO
  go_enter Tryd.func29, Tryd.ntmps29
  go_wp2_with fail
  go_loop [5] (fun i => ∃ j : Nat, j ≤ k ∧ i = .int .i64 j ∧ Hid (∀ i, i < j → litB n (c.getD i 0) = true)) (fun i => k - (intOf i).toNat)
  case atStart => exact ⟨0, Nat.zero_le _, rfl, fun i hi => absurd hi (Nat.not_lt_zero _)⟩
  case round =>
    obtain ⟨j, hj, rfl, hal⟩ := hrel
    by_cases hlt : j < k
    · obtain ⟨b, off, rfl, hblt, c1⟩ := HL.out j (by rw [HK.out]; exact hlt)
      have HY := Lib.hid (HYES.out j hlt)
      have HST : Hid (litB n (c.getD j 0) = true → ∀ i, i < j + 1 → litB n (c.getD i 0) = true) := fun h i hi => by
        by_cases e : i = j
        · subst e; exact h
        · exact hal.out i (by omega)
      generalize c.getD j 0 = l at c1 HY HST
      by_cases h0 : l = 0
      · obtain rfl := HY.out (by unfold litB; simp [h0])
        subst h0
        clear HYES HNO HY HST hal
        go_wp2_with fail
        go_ret
        exact ⟨rfl, rfl⟩
      · have h00 : (l == 0) = false := by simp [h0]
        by_cases h1 : n < l
        · obtain rfl := HY.out (by unfold litB; simp; omega)
          clear HYES HNO HY HST hal
          go_wp2_with fail
          go_ret
          exact ⟨rfl, rfl⟩
        · by_cases h2 : l < -n
          · obtain rfl := HY.out (by unfold litB; simp; omega)
            clear HYES HNO HY HST hal
            go_wp2_with fail
            go_ret
            exact ⟨rfl, rfl⟩
          · have hs := Lib.hid (HST.out (by unfold litB; simp; omega))
            clear HYES HNO HY HST hal
            go_wp2_with fail
            go_round
            case rel => exact ⟨j + 1, by omega, by go_num, hs⟩
            case measure => simp [intOf]; omega
    · obtain rfl : j = k := by omega
      obtain rfl := HNO.out hal.out
      clear HYES HNO hal
      go_wp2_with fail
      go_ret
      exact ⟨rfl, rfl⟩
set_option maxRecDepth 100000 in
set_option maxHeartbeats 2000000 in
theorem rcheck_any (n : Int) (a : Option Addr) (m cap : Nat) (cs : List (List Int)) (w : World) (hm : cs.length = m) (hmm : m ≤ 9223372036854775807) (hl : CLies w.heap.size w a cs) (hk : m ≤ 16384 → ∀ j, j < m → (cs.getD j []).length ≤ 4611686018427387904) :
    Calls Tryd.prog 19 #[.int .i64 n, .slice a m cap] w fun e w' => e = .returned (.int .i64 (chkK n cs)) ∧ w = w' := by
  by_cases h1 : n < 0 ∨ 8192 < n
  · have e : chkK n cs = 1 := by unfold chkK; rw [if_pos h1]
    rw [e]
    by_cases h2 : n < 0
    · go_enter Tryd.func19, Tryd.ntmps19
      go_wp2_with fail
      go_ret
      exact ⟨rfl, rfl⟩
    · have h3 : 8192 < n := by omega
      go_enter Tryd.func19, Tryd.ntmps19
      go_wp2_with fail
      go_ret
      exact ⟨rfl, rfl⟩
  · have h2 : ¬ n < 0 := by omega
    have h3 : ¬ 8192 < n := by omega
    by_cases h4 : 16384 < m
    · have e : chkK n cs = 2 := by unfold chkK; rw [if_neg h1, if_pos (by omega)]
      rw [e]
      go_enter Tryd.func19, Tryd.ntmps19
      go_wp2_with fail
      go_ret
      exact ⟨rfl, rfl⟩
    · have hk := hk (by omega)
      have HE : Hid (chkK n cs = if 131072 < sumTo cs m then 2 else if cs.all (litsB n) = true then 0 else 5) := by
        show _ = _
        unfold chkK; rw [if_neg h1, if_neg (by omega), hm]
      have HL := Lib.hid hl
      have HM := Lib.hid hm
      have HK := Lib.hid hk
      have HS := Lib.hid (fun j (hj : j < m) (ta : Option Addr) (tcap : Nat) (hn9 : Nums w.heap.size w ta (cs.getD j [])) => lits_any n ⟨by omega, by omega⟩ ta (cs.getD j []).length tcap (cs.getD j []) w rfl (by have := hk j hj; omega) hn9)
      generalize hr : chkK n cs = r at HE ⊢
      clear hl hm hk hr h1
      go_enter Tryd.func19, Tryd.ntmps19
      go_wp2_with fail
      go_loop [5, 6] (fun s i => ∃ k : Nat, k ≤ m ∧ i = .int .i64 k ∧ s = .int .i64 (131072 - (sumTo cs k : Int)) ∧ Hid (sumTo cs k ≤ 131072)) (fun _ i => m - (intOf i).toNat)
      case atStart => exact ⟨0, Nat.zero_le _, rfl, rfl, Nat.zero_le _⟩
      case round =>
        obtain ⟨k, hk, rfl, rfl, hs⟩ := hrel
        by_cases hlt : k < m
        · obtain ⟨b, off, ta, tcap, rfl, hblt, c1, _⟩ := HL.out k (by rw [HM.out]; exact hlt)
          have HN : Hid (sumTo cs (k + 1) = sumTo cs k + (cs.getD k []).length) := rfl
          have HMO : Hid (sumTo cs (k + 1) ≤ sumTo cs m) := sumTo_mono cs hlt
          have hkl := HK.out k hlt
          have hs1 := hs.out
          generalize (cs.getD k []).length = len at c1 HN hkl
          generalize sumTo cs k = sk at HN hs1
          by_cases hgt : 131072 < sk + len
          · have hr := HE.out
            rw [if_pos (by have := HN.out; have := HMO.out; omega)] at hr
            subst hr
            clear HE HS HN HMO hs
            have hgt2 : 131072 - (sk : Int) < (len : Int) := by omega
            go_wp2_with fail
            go_ret
            exact ⟨rfl, rfl⟩
          · have HS1 : Hid (sumTo cs (k + 1) ≤ 131072) := by show _ ≤ _; rw [HN.out]; omega
            have hgt2 : ¬ 131072 - (sk : Int) < (len : Int) := by omega
            clear HE HS HMO hs
            go_wp2_with fail
            go_round
            case rel => exact ⟨k + 1, by omega, by go_num, by rw [HN.out]; congr 1; omega, HS1⟩
            case measure => simp [intOf]; omega
        · obtain rfl : k = m := by omega
          have HE2 : Hid (r = if cs.all (litsB n) = true then 0 else 5) := by
            have := HE.out
            rwa [if_neg (by have := hs.out; omega)] at this
          clear HE hs
          go_wp2_with fail
          go_loop [7] (fun i => ∃ j : Nat, j ≤ k ∧ i = .int .i64 j ∧ Hid (∀ q, q < j → litsB n (cs.getD q []) = true)) (fun i => k - (intOf i).toNat)
          case atStart => exact ⟨0, Nat.zero_le _, rfl, fun q hq => absurd hq (Nat.not_lt_zero _)⟩
          case round =>
            obtain ⟨j, hj, rfl, hal⟩ := hrel
            by_cases hlt : j < k
            · obtain ⟨b, off, ta, tcap, rfl, hblt, c1, cn⟩ := HL.out j (by rw [HM.out]; exact hlt)
              have HC := Lib.hid (HS.out j hlt ta tcap cn)
              have HY : Hid (litsB n (cs.getD j []) = true → ∀ q, q < j + 1 → litsB n (cs.getD q []) = true) := fun h q hq => by
                by_cases e : q = j
                · subst e; exact h
                · exact hal.out q (by omega)
              have HNO : Hid (litsB n (cs.getD j []) = false → r = 5) := fun h => by
                rw [HE2.out, if_neg]
                intro h9
                have := all_get.1 h9 j (by rw [HM.out]; exact hlt)
                rw [h] at this; cases this
              clear cn hal HS HE2
              cases hbb : litsB n (cs.getD j [])
              · obtain rfl := HNO.out hbb
                rw [hbb] at HC
                clear HY HNO hbb
                generalize (cs.getD j []).length = len at c1 HC
                go_wp2_with fail
                refine HC.out.mono ?_
                rintro e w' ⟨rfl, rfl⟩
                go_wp2_with fail
                go_ret
                exact ⟨rfl, rfl⟩
              · have HY2 := Lib.hid (HY.out hbb)
                rw [hbb] at HC
                clear HY HNO hbb
                generalize (cs.getD j []).length = len at c1 HC
                go_wp2_with fail
                refine HC.out.mono ?_
                rintro e w' ⟨rfl, rfl⟩
                go_wp2_with fail
                go_round
                case rel => exact ⟨j + 1, by omega, by go_num, HY2⟩
                case measure => simp [intOf]; omega
            · obtain rfl : j = k := by omega
              have hr := HE2.out
              rw [if_pos (all_get.2 (by rw [HM.out]; exact hal.out))] at hr
              subst hr
              clear HE2 HS hal
              go_wp2_with fail
              go_ret
              exact ⟨rfl, rfl⟩
section
variable {P : Program} (w : World)
theorem run_equalIn_iface_int (d : Nat) {ti tn : TypeId} {ms : Array (String × TypeId)} {i : TypeInfo} {k : IntKind} (a b : Int)
    (hi : P.underlying ti = some (.interface ms)) (hn : P.underlying tn = some (.int k)) (hinfo : P.info? tn = some i) (hcomp : i.comparable = true) :
    (Op.equalIn (d + 2) ti (.iface tn (.int k a)) (.iface tn (.int k b))).run P w = .ok (a == b) w := by
  simp [Op.equalIn, run_underlying hi, run_underlying hn, typeInfo, hinfo, hcomp]
theorem run_eql_iface_int {ti tn : TypeId} {ms : Array (String × TypeId)} {i : TypeInfo} {k : IntKind} (a b : Int)
    (hi : P.underlying ti = some (.interface ms)) (hn : P.underlying tn = some (.int k)) (hinfo : P.info? tn = some i) (hcomp : i.comparable = true) :
    (binOp .eql ti (.iface tn (.int k a)) (.iface tn (.int k b))).run P w = .ok (.bool (a == b)) w := by
  simp only [binOp]
  simp [Op.equal, Op.maxDepth, run_equalIn_iface_int w 9998 a b hi hn hinfo hcomp]
end

theorem Tryd.eqCode (a b : Int) (w : World) : (binOp .eql 26 (.iface 36 (.int .i64 a)) (.iface 36 (.int .i64 b))).run Tryd.prog w = .ok (.bool (a == b)) w :=
  run_eql_iface_int (P := Tryd.prog) w a b Tryd.underlying26 Tryd.underlying36 (i := Tryd.t36) (by kernel_rfl) (by kernel_rfl)

/-- In a world of which a region has made more, and drawn. -/
theorem regrown_trans {w : World} {B : Nat} {W : World} (h : Below B w W) (hB : B ≤ W.heap.size) (d : Nat) (os : Array Obj) : Below B w (Go.Sort.grow (redrawn W d) os) := h.trans ((below_regrown W d os).mono hB)

set_option maxHeartbeats 400000 in
theorem code_nil (w : World) : Calls Tryd.prog 21 #[.nilIface] w fun e w' => e = .returned (.int .i64 0) ∧ w = w' := by
  go_enter Tryd.func21, Tryd.ntmps21
  go_wp2
  go_ret
  exact ⟨rfl, rfl⟩

set_option maxHeartbeats 800000 in
theorem code_k (k : Int) (w : World) (h1 : 1 ≤ k) (h2 : k ≤ 16) : Calls Tryd.prog 21 #[.iface 36 (.int .i64 k)] w fun e w' => e = .returned (.int .i64 k) ∧ w = w' := by
  have heq := fun (j : Int) W => Tryd.eqCode k j W
  go_enter Tryd.func21, Tryd.ntmps21
  go_wp2
  go_loop [3] (fun c => ∃ j : Int, 1 ≤ j ∧ j ≤ k ∧ c = .int .i64 j) (fun c => (k - intOf c).toNat)
  case atStart => exact ⟨1, by omega, h1, rfl⟩
  case round =>
    obtain ⟨j, hj1, hj2, rfl⟩ := hrel
    by_cases e : j = k
    · subst e
      have hb : (j == j) = true := by simp
      go_wp2
      go_ret
      exact ⟨rfl, rfl⟩
    · have hb : (k == j) = false := by simp; omega
      go_wp2
      go_round
      case rel => exact ⟨j + 1, by omega, by omega, rfl⟩
      case measure => simp [intOf]; omega

theorem code_any (x : Int) (w : World) (hx : 0 ≤ x ∧ x ≤ 16) : Calls Tryd.prog 21 #[codeV x] w fun e w' => e = .returned (.int .i64 x) ∧ w = w' := by
  by_cases h0 : x = 0
  · subst h0; exact code_nil w
  · rw [show codeV x = .iface 36 (.int .i64 x) from if_neg h0]; exact code_k x w (by omega) (by omega)
def LightIs (n : Int) (cs : List (List Int)) : Prop := (n ≤ 100 ∨ 8192 < n) ∧ (cs.length ≤ 200 ∨ 16384 < cs.length) ∧ ∀ j, j < cs.length → j < 200 → (cs.getD j []).length ≤ 100
theorem LightIs.len {n : Int} {cs : List (List Int)} (h : LightIs n cs) (hm : cs.length ≤ 16384) : cs.length ≤ 200 ∧ ∀ j, j < cs.length → (cs.getD j []).length ≤ 100 :=
  ⟨by have := h.2.1; omega, fun j hj => h.2.2 j hj (by have := h.2.1; omega)⟩
def LightEnd (n : Int) (cs : List (List Int)) (w : World) (e : Ending) (w' : World) : Prop := ∃ b, e = .returned (.bool b) ∧ w = w' ∧ (b = true → LightIs n cs)
set_option maxRecDepth 100000 in
set_option maxHeartbeats 1000000 in
theorem light_any (n : Int) (a : Option Addr) (m cap : Nat) (cs : List (List Int)) (w : World) (hm : cs.length = m) (hmm : m ≤ 9223372036854775807) (hl : CLies w.heap.size w a cs) :
    Calls Tryd.prog 15 #[.int .i64 n, .slice a m cap] w (LightEnd n cs w) := by
  by_cases hA : 100 < n ∧ n ≤ 8192
  · obtain ⟨h1, h2⟩ := hA
    go_enter Tryd.func15, Tryd.ntmps15
    go_wp2_with fail
    go_ret
    exact ⟨false, rfl, rfl, fun h => by cases h⟩
  · by_cases hB : 200 < m ∧ m ≤ 16384
    · obtain ⟨h3, h4⟩ := hB
      rcases (show n ≤ 100 ∨ (100 < n ∧ 8192 < n) by omega) with h1 | ⟨h1, h2⟩
      all_goals
        go_enter Tryd.func15, Tryd.ntmps15
        go_wp2_with fail
        go_ret
        exact ⟨false, rfl, rfl, fun h => by cases h⟩
    · have HL := Lib.hid hl
      have HM := Lib.hid hm
      have HE : Hid ((∀ j, j < m → j < 200 → (cs.getD j []).length ≤ 100) → LightIs n cs) := fun h => ⟨by omega, by omega, fun j hj => h j (by omega)⟩
      clear hl hm
      have key : ∀ (P1 : n ≤ 100 ∨ (100 < n ∧ 8192 < n)) (P2 : m ≤ 200 ∨ (200 < m ∧ 16384 < m)), Calls Tryd.prog 15 #[.int .i64 n, .slice a m cap] w (LightEnd n cs w) := by
        intro P1 P2
        go_enter Tryd.func15, Tryd.ntmps15
        rcases P1 with P1 | ⟨P1, P1'⟩ <;> rcases P2 with P2 | ⟨P2, P2'⟩
        all_goals
          go_wp2_with fail
          go_loop [5] (fun i => ∃ k : Nat, k ≤ m ∧ k ≤ 200 ∧ i = .int .i64 k ∧ Hid (∀ j, j < k → (cs.getD j []).length ≤ 100)) (fun i => 200 - (intOf i).toNat)
          case atStart => exact ⟨0, Nat.zero_le _, by omega, rfl, fun j hj => absurd hj (Nat.not_lt_zero _)⟩
          case round =>
            obtain ⟨k, hk, hk1, rfl, hal⟩ := hrel
            by_cases hlt : k < m
            · by_cases hlt2 : k < 200
              · obtain ⟨b, off, ta, tcap, rfl, hblt, c1, _⟩ := HL.out k (by rw [HM.out]; exact hlt)
                have HST : Hid ((cs.getD k []).length ≤ 100 → ∀ j, j < k + 1 → (cs.getD j []).length ≤ 100) := fun h j hj => by
                  by_cases e : j = k
                  · subst e; exact h
                  · exact hal.out j (by omega)
                generalize (cs.getD k []).length = len at c1 HST
                by_cases hm : 100 < len
                · clear HST hal
                  go_wp2_with fail
                  go_ret
                  exact ⟨false, rfl, rfl, fun h => by cases h⟩
                · have hs := Lib.hid (HST.out (by omega))
                  clear HST hal
                  go_wp2_with fail
                  go_round
                  case rel => exact ⟨k + 1, by omega, by omega, by go_num, hs⟩
                  case measure => simp [intOf]; omega
              · have HE9 := Lib.hid (HE.out (fun j hj hj2 => hal.out j (by omega)))
                clear hal
                go_wp2_with fail
                first
                | done
                | (go_ret
                   exact ⟨true, rfl, rfl, fun _ => HE9.out⟩)
            · have HE9 := Lib.hid (HE.out (fun j hj hj2 => hal.out j (by omega)))
              clear hal
              go_wp2_with fail
              first
              | done
              | (go_ret
                 exact ⟨true, rfl, rfl, fun _ => HE9.out⟩)
      exact key (by omega) (by omega)
end Go.Proofs.YtlnkgemndojdnaaDoor
