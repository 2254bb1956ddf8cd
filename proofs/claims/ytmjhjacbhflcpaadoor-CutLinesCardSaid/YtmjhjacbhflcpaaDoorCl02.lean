/- The contracts of the document's own Gcd and Check. Two errors of one integer type held against each other; the document's examples of layer 1. The statements' own helpers: which number an error has; whether two forms are the same. cut.within, cut.up, cut.check. -/
import Derived.Test.YtmjhjacbhflcpaaDoorCl01
import Derived.LaidEql
import Derived.Lib.QuietBelow
set_option linter.unusedVariables false
set_option linter.unusedSimpArgs false
namespace Go.Proofs.YtmjhjacbhflcpaaDoor
open Go.RowKit

/-- One round of the document's Check: a term that is sound. -/
theorem okAt_mk {l : List (Int × Int)} {i : Nat} (h : lastAt l i < (l.getD i (0, 0)).1 ∧ (l.getD i (0, 0)).2 ≠ 0 ∧ 0 ≤ (l.getD i (0, 0)).1 ∧ (l.getD i (0, 0)).1 < 1048576 ∧ -1073741824 ≤ (l.getD i (0, 0)).2 ∧ (l.getD i (0, 0)).2 ≤ 1073741824) : okAt l i = true := by
  unfold okAt chk mst wi
  simp only [Bool.and_eq_true, decide_eq_true_eq]
  exact ⟨h.1, h.2.1, ⟨h.2.2.1, h.2.2.2.1⟩, h.2.2.2.2⟩

theorem coef_same (n : Int) (w : World) : Calls Tryd.prog 33 #[.int .i64 n] w fun e w' => e = .returned (.bool (wi n 1073741824)) ∧ w' = w :=
  (coef_any n w).mono fun _ _ ⟨he, hw⟩ => ⟨he, hw.symm⟩

set_option maxHeartbeats 1600000 in
theorem rcheck_any (c : Int) (a : Option Addr) (n cap : Nat) (l : List (Int × Int)) (w : World) (hn : l.length = n) (hm : n ≤ 9223372036854775807) (hl : Lies w.heap.size w a l) :
    Calls Tryd.prog 18 #[.agg #[.int .i64 c, .slice a n cap]] w fun e w' => e = .returned (.bool (snd c l)) ∧ Below w.heap.size w w' := by
  have hco := fun W => coef_any c W
  by_cases hc : wi c 1073741824 = true
  · rw [hc] at hco
    by_cases h64 : n ≤ 64
    · have HS : Hid (∀ b, (b = true ↔ ∀ i, i < n → okAt l i = true) → snd c l = b) := fun b hb => by
        rw [Bool.eq_iff_iff, snd_iff, hb, hn]; exact ⟨fun h => h.2.2, fun h => ⟨hc, h64, h⟩⟩
      have HL := Lib.hid hl
      have HN := Lib.hid hn
      clear hn hl hc
      go_enter Tryd.func18, Tryd.ntmps18
      go_wp2_with (go_at_call 33; refine (hco _).mono ?_; rintro e w' ⟨rfl, rfl⟩)
      go_loopw [3, 4] (fun i _ wr => ∃ k : Nat, k ≤ n ∧ i = .int .i64 k ∧ Hid (∀ j, j < k → okAt l j = true) ∧ Below (w.heap.size + 1) (w.alloc (.cells #[.int .i64 c, .slice a n cap] 49)) wr) (fun i _ _ => n - (intOf i).toNat)
      case atStart => exact ⟨0, Nat.zero_le _, rfl, fun j hj => absurd hj (Nat.not_lt_zero j), Below.refl _ _⟩
      case round =>
        obtain ⟨k, hk, rfl, hok, hb⟩ := hrel
        have hz : w.heap.size < wr.heap.size := by have := hb.size; simp at this; omega
        have hc1 : wr.cell? ⟨w.heap.size, 1, none⟩ = some (.slice a n cap) := by rw [hb.cell (p := ⟨_, _, none⟩) (by simp)]; simp
        by_cases hlt : k < n
        · have hbw : Below w.heap.size w wr := ((Below.refl _ w).alloc (Nat.le_refl _) _).trans (hb.mono (by omega))
          obtain ⟨b, off, rfl, hblt, c1, c2⟩ := (HL.out.below hbw) k (by rw [HN.out]; exact hlt)
          by_cases hA : (l.getD k (0, 0)).1 < 0
          · have hno : okAt l k = false := by
              rw [Bool.eq_false_iff]; intro h; have := okAt_in h; omega
            have HF := Lib.hid (HS.out false ⟨fun h => absurd h (by decide), fun h => by rw [h k hlt] at hno; exact hno.symm⟩)
            clear hno hok HS
            generalize (l.getD k (0, 0)).1 = v at c1 hA
            generalize (l.getD k (0, 0)).2 = u at c2 
            have hA' : decide (v < 0) = true := by simpa using hA
            go_wp2_with fail
            go_quiet (fail)
            go_wp2
            go_ret
            exact ⟨ret_bool HF.out.symm, below_drewN (hbw.alloc (Nat.le_of_lt hz) _) _⟩
          have hA' : decide ((l.getD k (0, 0)).1 < 0) = false := by simpa using hA
          by_cases hB : 1048576 ≤ (l.getD k (0, 0)).1
          · have hno : okAt l k = false := by
              rw [Bool.eq_false_iff]; intro h; have := okAt_in h; omega
            have HF := Lib.hid (HS.out false ⟨fun h => absurd h (by decide), fun h => by rw [h k hlt] at hno; exact hno.symm⟩)
            clear hno hok HS
            generalize (l.getD k (0, 0)).1 = v at c1 hA hA' hB
            generalize (l.getD k (0, 0)).2 = u at c2 
            have hB' : decide (1048576 ≤ v) = true := by simpa using hB
            go_wp2_with fail
            go_quiet (fail)
            go_wp2
            go_ret
            exact ⟨ret_bool HF.out.symm, below_drewN (hbw.alloc (Nat.le_of_lt hz) _) _⟩
          have hB' : decide (1048576 ≤ (l.getD k (0, 0)).1) = false := by simpa using hB
          by_cases hC : (l.getD k (0, 0)).2 = 0
          · have hno : okAt l k = false := by
              rw [Bool.eq_false_iff]; intro h; have := okAt_in h; exact this.2.1 hC
            have HF := Lib.hid (HS.out false ⟨fun h => absurd h (by decide), fun h => by rw [h k hlt] at hno; exact hno.symm⟩)
            clear hno hok HS
            rw [hC] at c2
            generalize (l.getD k (0, 0)).1 = v at c1 hA hA' hB hB'
            clear hC
            go_wp2_with fail
            go_quiet (fail)
            go_wp2
            go_ret
            exact ⟨ret_bool HF.out.symm, below_drewN (hbw.alloc (Nat.le_of_lt hz) _) _⟩
          have hC' : ((l.getD k (0, 0)).2 == 0) = false := by simpa using hC
          have hcu := fun W => coef_same (l.getD k (0, 0)).2 W
          by_cases hD : wi (l.getD k (0, 0)).2 1073741824 = true
          · have hD' : -1073741824 ≤ (l.getD k (0, 0)).2 ∧ (l.getD k (0, 0)).2 ≤ 1073741824 := by unfold wi at hD; simpa using hD
            rw [hD] at hcu
            by_cases hk0 : k = 0
            · have hyes : okAt l k = true := okAt_mk ⟨by rw [hk0, lastAt_zero]; rw [hk0] at hA; omega, hC, by omega, by omega, hD'.1, hD'.2⟩
              have hok2 : Hid (∀ j, j < k + 1 → okAt l j = true) := fun j hj => by
                by_cases e : j = k
                · rw [e]; exact hyes
                · exact hok.out j (by omega)
              clear hyes hok HS
              subst hk0
              simp only [Nat.zero_mul, Nat.add_zero] at c1 c2
              generalize (l.getD 0 (0, 0)).1 = v at c1 hA hA' hB hB'
              generalize (l.getD 0 (0, 0)).2 = u at c2 hC hC' hcu hD hD'
              clear hC hD hD'
              go_wp2_with fail
              go_quiet ((go_at_call 33; exact Calls.quiet_of_same (hcu _)))
              go_wp2
              go_roundw
              case rel => exact ⟨0 + 1, by omega, by go_num, hok2, below_drewN (hb.alloc (by omega) _) _⟩
              case measure => simp [intOf]; omega
            · obtain ⟨m, rfl⟩ : ∃ m, k = m + 1 := ⟨k - 1, by omega⟩
              obtain ⟨b', off', hab, _, p1, _⟩ := (HL.out.below hbw) m (by rw [HN.out]; omega)
              obtain ⟨rfl, rfl⟩ : b = b' ∧ off = off' := by injection hab with h; injection h with h1 h2; exact ⟨h1, h2⟩
              clear hab
              have hw1 : IntKind.i64.wrap ((m : Int) + 1 - 1) = m := by rw [show (m : Int) + 1 - 1 = m by omega]; exact IntWalk.i64_in _ (by omega)
              have hw2 : IntKind.i64.wrap (m : Int) = m := IntWalk.i64_in _ (by omega)
              have hmn : m < n := by omega
              have hbwr : b < wr.heap.size := by omega
              by_cases hE : (l.getD m (0, 0)).1 < (l.getD (m + 1) (0, 0)).1
              · have hyes : okAt l (m + 1) = true := okAt_mk ⟨by rw [lastAt_succ]; exact hE, hC, by omega, by omega, hD'.1, hD'.2⟩
                have hok2 : Hid (∀ j, j < m + 1 + 1 → okAt l j = true) := fun j hj => by
                  by_cases e : j = m + 1
                  · rw [e]; exact hyes
                  · exact hok.out j (by omega)
                clear hyes hok HS
                generalize (l.getD (m + 1) (0, 0)).1 = v at c1 hA hA' hB hB' hE
                generalize (l.getD (m + 1) (0, 0)).2 = u at c2 hC hC' hcu hD hD'
                generalize (l.getD m (0, 0)).1 = pv at p1 hE
                have hE' : decide (v ≤ pv) = false := by simpa using hE
                clear hC hD hD'
                go_wp2_with fail
                go_quiet ((go_at_call 33; exact Calls.quiet_of_same (hcu _)))
                go_wp2
                go_roundw
                case rel => exact ⟨m + 1 + 1, by omega, by go_num, hok2, below_drewN (hb.alloc (by omega) _) _⟩
                case measure => simp [intOf]; omega
              · have hno : okAt l (m + 1) = false := by
                  rw [Bool.eq_false_iff]; intro h; have := okAt_in h; rw [lastAt_succ] at this; exact hE this.1
                have HF := Lib.hid (HS.out false ⟨fun h => absurd h (by decide), fun h => by rw [h (m + 1) hlt] at hno; exact hno.symm⟩)
                clear hno hok HS
                generalize (l.getD (m + 1) (0, 0)).1 = v at c1 hA hA' hB hB' hE
                generalize (l.getD (m + 1) (0, 0)).2 = u at c2 hC hC' hcu hD hD'
                generalize (l.getD m (0, 0)).1 = pv at p1 hE
                have hE' : decide (v ≤ pv) = true := by simpa using hE
                clear hC hD hD'
                go_wp2_with fail
                go_quiet ((go_at_call 33; exact Calls.quiet_of_same (hcu _)))
                go_wp2
                go_ret
                exact ⟨ret_bool HF.out.symm, below_drewN (hbw.alloc (Nat.le_of_lt hz) _) _⟩
          · have hD' : wi (l.getD k (0, 0)).2 1073741824 = false := by simpa using hD
            rw [hD'] at hcu
            have hno : okAt l k = false := by
              rw [Bool.eq_false_iff]; intro h; have := okAt_in h; exact hD (wi_t ⟨this.2.2.2.2.1, this.2.2.2.2.2⟩)
            have HF := Lib.hid (HS.out false ⟨fun h => absurd h (by decide), fun h => by rw [h k hlt] at hno; exact hno.symm⟩)
            clear hno hok HS
            generalize (l.getD k (0, 0)).1 = v at c1 hA hA' hB hB'
            generalize (l.getD k (0, 0)).2 = u at c2 hC hC' hcu hD hD'
            clear hC hD hD'
            go_wp2_with fail
            go_quiet ((go_at_call 33; exact Calls.quiet_of_same (hcu _)))
            go_wp2
            go_ret
            exact ⟨ret_bool HF.out.symm, below_drewN (hbw.alloc (Nat.le_of_lt hz) _) _⟩
        · have HF := Lib.hid (HS.out true ⟨fun _ i hi => hok.out i (by omega), fun _ => rfl⟩)
          go_wp2
          go_ret
          exact ⟨ret_bool HF.out.symm, ((Below.refl _ w).alloc (Nat.le_refl _) _).trans (hb.mono (by omega))⟩
    · rw [show snd c l = false by rw [Bool.eq_false_iff]; intro h; have := (snd_iff.1 h).2.1; omega]
      clear hn hl hc
      go_enter Tryd.func18, Tryd.ntmps18
      go_wp2_with (go_at_call 33; refine (hco _).mono ?_; rintro e w' ⟨rfl, rfl⟩)
      go_ret
      exact ⟨rfl, (Below.refl _ w).alloc (Nat.le_refl _) _⟩
  · have hc' : wi c 1073741824 = false := by simpa using hc
    rw [hc'] at hco
    rw [show snd c l = false by rw [Bool.eq_false_iff]; intro h; exact hc (snd_iff.1 h).1]
    clear hn hl hc hc'
    go_enter Tryd.func18, Tryd.ntmps18
    go_wp2_with (go_at_call 33; refine (hco _).mono ?_; rintro e w' ⟨rfl, rfl⟩)
    go_ret
    exact ⟨rfl, (Below.refl _ w).alloc (Nat.le_refl _) _⟩
end Go.Proofs.YtmjhjacbhflcpaaDoor

namespace Go.Proofs.YtmjhjacbhflcpaaDoor
open Go.RowKit

section
variable {P : Program} (w : World)
theorem run_equalIn_iface_int (d : Nat) {ti tn : TypeId} {ms : Array (String × TypeId)} {i : TypeInfo} {k : IntKind} (a b : Int)
    (hi : P.underlying ti = some (.interface ms)) (hn : P.underlying tn = some (.int k)) (hinfo : P.info? tn = some i) (hcomp : i.comparable = true) :
    (Op.equalIn (d + 2) ti (.iface tn (.int k a)) (.iface tn (.int k b))).run P w = .ok (a == b) w := by
  simp [Op.equalIn, run_underlying hi, run_underlying hn, typeInfo, hinfo, hcomp]
theorem run_eql_iface_int {ti tn : TypeId} {ms : Array (String × TypeId)} {i : TypeInfo} {k : IntKind} (a b : Int)
    (hi : P.underlying ti = some (.interface ms)) (hn : P.underlying tn = some (.int k)) (hinfo : P.info? tn = some i) (hcomp : i.comparable = true) :
    (binOp .eql ti (.iface tn (.int k a)) (.iface tn (.int k b))).run P w = .ok (.bool (a == b)) w := by
  simp only [binOp]
  simp [Op.equal, Op.maxDepth, run_equalIn_iface_int w 9998 a b hi hn hinfo hcomp]
end

theorem Tryd.eqCode (a b : Int) (w : World) : (binOp .eql 27 (.iface 42 (.int .i64 a)) (.iface 42 (.int .i64 b))).run Tryd.prog w = .ok (.bool (a == b)) w :=
  run_eql_iface_int (P := Tryd.prog) w a b Tryd.underlying27 Tryd.underlying42 (i := Tryd.t42) (by kernel_rfl) (by kernel_rfl)

/-- In a world of which a region has made more, and drawn. -/
theorem regrown_trans {w : World} {B : Nat} {W : World} (h : Below B w W) (hB : B ≤ W.heap.size) (d : Nat) (os : Array Obj) : Below B w (Go.Sort.grow (redrawn W d) os) := h.trans ((below_regrown W d os).mono hB)
end Go.Proofs.YtmjhjacbhflcpaaDoor

namespace Go.Proofs.YtmjhjacbhflcpaaDoor
open Go.RowKit

theorem Tryd.eqIfaceNil (k : Int) (w : World) : (binOp .eql 27 (.iface 42 (.int .i64 k)) .nilIface).run Tryd.prog w = .ok (.bool false) w := by simp [go_sem]

set_option maxHeartbeats 400000 in
theorem code_nil (w : World) : Calls Tryd.prog 21 #[.nilIface] w fun e w' => e = .returned (.int .i64 0) ∧ w = w' := by
  go_enter Tryd.func21, Tryd.ntmps21
  go_wp2
  go_ret
  exact ⟨rfl, rfl⟩

set_option maxHeartbeats 800000 in
theorem code_k (k : Int) (w : World) (h1 : 1 ≤ k) (h2 : k ≤ 16) : Calls Tryd.prog 21 #[.iface 42 (.int .i64 k)] w fun e w' => e = .returned (.int .i64 k) ∧ w = w' := by
  have heq := fun (j : Int) W => Tryd.eqCode k j W
  go_enter Tryd.func21, Tryd.ntmps21
  go_wp2
  go_loop [3] (fun c => ∃ j : Int, 1 ≤ j ∧ j ≤ k ∧ c = .int .i64 j) (fun c => (k - intOf c).toNat)
  case atStart => exact ⟨1, by omega, h1, rfl⟩
  case round =>
    obtain ⟨j, hj1, hj2, rfl⟩ := hrel
    by_cases e : j = k
    · subst e
      have hb : (j == j) = true := by simp
      go_wp2
      go_ret
      exact ⟨rfl, rfl⟩
    · have hb : (k == j) = false := by simp; omega
      go_wp2
      go_round
      case rel => exact ⟨j + 1, by omega, by omega, rfl⟩
      case measure => simp [intOf]; omega

/-- Whether two forms are the same. -/
def same (c d : Int) (l m : List (Int × Int)) : Bool := decide (c = d) && decide (l = m)

theorem list_eq_of {l m : List (Int × Int)} (hl : l.length = m.length) (h : ∀ i, i < l.length → l.getD i (0, 0) = m.getD i (0, 0)) : l = m := by
  apply List.ext_getElem hl
  intro i h1 h2
  have := h i h1
  rw [List.getD_eq_getElem?_getD, List.getElem?_eq_getElem h1, List.getD_eq_getElem?_getD, List.getElem?_eq_getElem h2] at this
  simpa using this

theorem Tryd.neMono (x y u v : Int) (w : World) : (binOp .neq 46 (.agg #[.int .i64 x, .int .i64 y]) (.agg #[.int .i64 u, .int .i64 v])).run Tryd.prog w = .ok (.bool (!(x == u && y == v))) w := by
  simp [go_sem]
  by_cases h1 : x = u <;> by_cases h2 : y = v <;> simp [h1, h2]

set_option maxHeartbeats 1000000 in
theorem same_any (c d : Int) (a b : Option Addr) (na nb capa capb : Nat) (l m : List (Int × Int)) (w : World) (hna : l.length = na) (hnb : m.length = nb) (hma : na ≤ 9223372036854775807) (hmb : nb ≤ 9223372036854775807) (hla : Lies w.heap.size w a l) (hlb : Lies w.heap.size w b m) :
    Calls Tryd.prog 20 #[.agg #[.int .i64 c, .slice a na capa], .agg #[.int .i64 d, .slice b nb capb]] w fun e w' => e = .returned (.bool (same c d l m)) ∧ Below w.heap.size w w' := by
  have HB0 : Hid (Below w.heap.size w ((w.alloc (.cells #[.int .i64 c, .slice a na capa] 49)).alloc (.cells #[.int .i64 d, .slice b nb capb] 49))) := ((Below.refl _ w).alloc (Nat.le_refl _) _).alloc (by simp) _
  by_cases hcd : c = d
  · subst hcd
    have hcc : (c != c) = false := by simp
    by_cases hnn : na = nb
    · subst hnn
      have hnn' : ((na : Int) != (na : Int)) = false := by simp
      have HS : Hid (∀ r, (r = true ↔ ∀ i, i < na → l.getD i (0, 0) = m.getD i (0, 0)) → same c c l m = r) := fun r hr => by
        unfold same
        rw [decide_eq_true rfl, Bool.true_and, Bool.eq_iff_iff, hr]
        simp only [decide_eq_true_eq]
        exact ⟨fun h i _ => by rw [h], fun h => list_eq_of (by omega) (fun i hi => h i (by omega))⟩
      have HNA := Lib.hid hna
      have HNB := Lib.hid hnb
      have HLA := Lib.hid hla
      have HLB := Lib.hid hlb
      clear hna hnb hla hlb
      go_enter Tryd.func20, Tryd.ntmps20
      go_wp2
      go_loopw [5] (fun i wr => ∃ k : Nat, k ≤ na ∧ i = .int .i64 k ∧ Hid (∀ j, j < k → l.getD j (0, 0) = m.getD j (0, 0)) ∧ Hid (∃ q, wr = ((w.alloc (.cells #[.int .i64 c, .slice a na capa] 49)).alloc (.cells #[.int .i64 c, .slice b na capb] 49)).drewN q)) (fun i _ => na - (intOf i).toNat)
      case atStart => exact ⟨0, Nat.zero_le _, rfl, fun j hj => absurd hj (Nat.not_lt_zero j), 0, rfl⟩
      case round =>
        obtain ⟨k, hk, rfl, hok, hw⟩ := hrel
        obtain ⟨q, hw⟩ := hw.out
        subst hw
        by_cases hlt : k < na
        · obtain ⟨ab, aoff, rfl, hab, a1, a2⟩ := (HLA.out.below HB0.out) k (by rw [HNA.out]; exact hlt)
          obtain ⟨bb, boff, rfl, hbb, b1, b2⟩ := (HLB.out.below HB0.out) k (by rw [HNB.out]; exact hlt)
          have a1' : ∀ q, (((w.alloc (.cells #[.int .i64 c, .slice (some ⟨ab, aoff, none⟩) na capa] 49)).alloc (.cells #[.int .i64 c, .slice (some ⟨bb, boff, none⟩) na capb] 49)).drewN q).cell? ⟨ab, aoff + k * 2, none⟩ = some (.int .i64 (l.getD k (0, 0)).1) := fun _ => a1
          by_cases e : l.getD k (0, 0) = m.getD k (0, 0)
          · have hok2 : Hid (∀ j, j < k + 1 → l.getD j (0, 0) = m.getD j (0, 0)) := fun j hj => by
              by_cases ej : j = k
              · rw [ej]; exact e
              · exact hok.out j (by omega)
            rw [← e] at b1 b2
            generalize l.getD k (0, 0) = p at a1 a2 b1 b2 e a1'
            obtain ⟨v, u⟩ := p
            clear e
            have hne : ∀ W, (binOp .neq 46 (.agg #[.int .i64 v, .int .i64 u]) (.agg #[.int .i64 v, .int .i64 u])).run Tryd.prog W = .ok (.bool false) W := fun W => by rw [Tryd.neMono]; simp
            have hbw1 : ab < w.heap.size := hab
            have hbw2 : bb < w.heap.size := hbb
            go_wp2_with fail
            go_quiet (fail)
            go_wp2
            go_roundw
            case rel => exact ⟨k + 1, by omega, by go_num, hok2, ⟨_, rfl⟩⟩
            case measure => simp [intOf]; omega
          · have hF := Lib.hid (HS.out false ⟨fun h => absurd h (by decide), fun h => absurd (h k hlt) e⟩)
            generalize l.getD k (0, 0) = p at a1 a2 e a1'
            generalize m.getD k (0, 0) = p' at b1 b2 e
            obtain ⟨v, u⟩ := p
            obtain ⟨v', u'⟩ := p'
            have hne : ∀ W, (binOp .neq 46 (.agg #[.int .i64 v, .int .i64 u]) (.agg #[.int .i64 v', .int .i64 u'])).run Tryd.prog W = .ok (.bool true) W := fun W => by
              rw [Tryd.neMono]
              have : (v == v' && u == u') = false := by
                rw [Bool.eq_false_iff]
                intro h
                simp only [Bool.and_eq_true, beq_iff_eq] at h
                exact e (by rw [h.1, h.2])
              rw [this]; rfl
            clear e
            have hbw1 : ab < w.heap.size := hab
            have hbw2 : bb < w.heap.size := hbb
            go_wp2_with fail
            go_quiet (fail)
            go_wp2
            go_ret
            exact ⟨ret_bool hF.out.symm, below_drewN (below_drewN HB0.out q) nq⟩
        · have HF := Lib.hid (HS.out true ⟨fun _ i hi => hok.out i (by omega), fun _ => rfl⟩)
          go_wp2
          go_ret
          exact ⟨ret_bool HF.out.symm, below_drewN HB0.out q⟩
    · have hnn' : ((na : Int) != (nb : Int)) = true := by simp; omega
      have HS : Hid (same c c l m = false) := by
        show _ = _
        unfold same
        rw [decide_eq_false (p := l = m) (fun h => by subst h; omega)]; simp
      clear hna hnb hla hlb
      go_enter Tryd.func20, Tryd.ntmps20
      go_wp2
      go_ret
      exact ⟨ret_bool HS.out.symm, HB0.out⟩
  · have hcc : (c != d) = true := by simpa using hcd
    have HS : Hid (same c d l m = false) := by
      show _ = _
      unfold same
      rw [decide_eq_false hcd]; rfl
    clear hna hnb hla hlb
    go_enter Tryd.func20, Tryd.ntmps20
    go_wp2
    go_ret
    exact ⟨ret_bool HS.out.symm, HB0.out⟩
end Go.Proofs.YtmjhjacbhflcpaaDoor

namespace Go.Proofs.YtmjhjacbhflcpaaDoor
open Go.RowKit

theorem cwithin_any (n m : Int) (w : World) (h0 : 0 ≤ m) (h1 : m ≤ 4398046511104) :
    Calls Tryd.prog 31 #[.int .i64 n, .int .i64 m] w fun e w' => e = .returned (.bool (wi n m)) ∧ w = w' := by
  have hw : IntKind.i64.wrap (-m) = -m := IntWalk.i64_in _ (by omega)
  by_cases a : -m ≤ n
  · by_cases b : n ≤ m
    · rw [wi_t ⟨a, b⟩]
      go_enter Tryd.func31, Tryd.ntmps31
      go_wp2
      go_ret
      exact ⟨rfl, rfl⟩
    · rw [wi_f (by omega)]
      go_enter Tryd.func31, Tryd.ntmps31
      go_wp2
      go_ret
      exact ⟨rfl, rfl⟩
  · rw [wi_f (by omega)]
    go_enter Tryd.func31, Tryd.ntmps31
    go_wp2
    go_ret
    exact ⟨rfl, rfl⟩
theorem cup_any (c g : Int) (w : World) (hg : 1 ≤ g) (hc : -1125899906842624 ≤ c ∧ c ≤ 1125899906842624) :
    Calls Tryd.prog 43 #[.int .i64 c, .int .i64 g] w fun e w' => e = .returned (.int .i64 (upI c g)) ∧ w = w' := by
  have hg0 : g ≠ 0 := by omega
  have hb := tdiv_in (c := c) (g := g) (B := 1125899906842624) (by omega)
  by_cases h : 0 < c.tmod g
  · have e : upI c g = c.tdiv g + 1 := by unfold upI; rw [if_pos h]
    rw [e]
    go_enter Tryd.func43, Tryd.ntmps43
    go_wp2
    go_ret
    exact ⟨rfl, rfl⟩
  · have e : upI c g = c.tdiv g := by unfold upI; rw [if_neg h]
    rw [e]
    go_enter Tryd.func43, Tryd.ntmps43
    go_wp2
    go_ret
    exact ⟨rfl, rfl⟩

/-- What is amiss with a part, with the first parts, with a step's own numbers. -/
def partK (n : Int) (p : Int × Int) : Int := if p.1 < 0 ∨ n ≤ p.1 then 6 else if p.2 < 1 ∨ 4096 < p.2 then 1 else 0
def partsK (n : Int) (ps : List (Int × Int)) : Nat → Int
  | 0 => 0
  | k + 1 => if partsK n ps k = 0 then partK n (ps.getD k (0, 0)) else partsK n ps k
def stepK (n : Int) (ps : List (Int × Int)) (div : Int) : Int :=
  if 64 < ps.length then 2 else if partsK n ps ps.length = 0 then (if div < 1 ∨ 1073741824 < div then 1 else 0) else partsK n ps ps.length
theorem partsK_stay {n : Int} {ps : List (Int × Int)} {k m : Nat} (h : partsK n ps k ≠ 0) (hm : k ≤ m) : partsK n ps m = partsK n ps k := by
  induction hm with
  | refl => rfl
  | @step m hm ih => show (if partsK n ps m = 0 then _ else _) = _; rw [if_neg (by rw [ih]; exact h), ih]
/-- The number of an error, as an error. -/
def codeV (k : Int) : Value := if k = 0 then .nilIface else .iface 42 (.int .i64 k)

set_option maxRecDepth 100000 in
set_option maxHeartbeats 2000000 in
theorem ccheck_any (n : Int) (a : Option Addr) (len cap : Nat) (ps : List (Int × Int)) (div : Int) (w : World) (hn : ps.length = len) (hm : len ≤ 9223372036854775807) (hl : Lies w.heap.size w a ps) :
    Calls Tryd.prog 28 #[.int .i64 n, .agg #[.slice a len cap, .int .i64 div]] w fun e w' => e = .returned (codeV (stepK n ps div)) ∧ Below w.heap.size w w' := by
  have HB0 : Hid (Below w.heap.size w (w.alloc (.cells #[.slice a len cap, .int .i64 div] 39))) := (Below.refl _ w).alloc (Nat.le_refl _) _
  have P0 : Hid (∀ W, Below (w.heap.size + 1) (w.alloc (.cells #[.slice a len cap, .int .i64 div] 39)) W → W.cell? ⟨w.heap.size, 0, none⟩ = some (.slice a len cap) ∧ W.cell? ⟨w.heap.size, 1, none⟩ = some (.int .i64 div)) := fun W hb =>
    ⟨by rw [hb.cell (p := ⟨w.heap.size, 0, none⟩) (Nat.lt_succ_self _)]; simp, by rw [hb.cell (p := ⟨w.heap.size, 1, none⟩) (Nat.lt_succ_self _)]; simp⟩
  have HL := Lib.hid hl
  have HN := Lib.hid hn
  clear hl
  by_cases h64 : 64 < len
  · have e : codeV (stepK n ps div) = .iface 42 (.int .i64 2) := by unfold stepK; rw [if_pos (by omega)]; rfl
    rw [e]
    go_enter Tryd.func28, Tryd.ntmps28
    go_wp2
    go_ret
    exact ⟨rfl, HB0.out⟩
  · have HE : Hid (stepK n ps div = if partsK n ps len = 0 then (if div < 1 ∨ 1073741824 < div then 1 else 0) else partsK n ps len) := by
      show _ = _
      unfold stepK
      rw [if_neg (by omega), hn]
    have Z1 : w.heap.size + 1 = (w.alloc (.cells #[.slice a len cap, .int .i64 div] 39)).heap.size := by simp
    generalize stepK n ps div = K at HE ⊢
    clear hn
    go_enter Tryd.func28, Tryd.ntmps28
    go_wp2
    generalize w.alloc (.cells #[.slice a len cap, .int .i64 div] 39) = w1 at HB0 P0 Z1 ⊢
    go_loopw [15] (fun i wr => ∃ (k : Nat), k ≤ len ∧ i = .int .i64 k ∧ Hid (partsK n ps k = 0) ∧ Hid (Below w1.heap.size w1 wr)) (fun i _ => len - (intOf i).toNat)
    case atStart => exact ⟨0, Nat.zero_le _, rfl, rfl, Below.refl _ _⟩
    case round =>
      obtain ⟨k, hk, rfl, h0, hb⟩ := hrel
      have HB := Lib.hid (HB0.out.trans (hb.out.mono HB0.out.size))
      by_cases hlt : k < len
      · obtain ⟨b, off, rfl, hblt, c1, c2⟩ := (HL.out.below HB.out) k (by rw [HN.out]; exact hlt)
        have HBA := Lib.hid (hb.out.alloc hb.out.size (.cells #[.int .i64 (ps.getD k (0, 0)).1, .int .i64 (ps.getD k (0, 0)).2] 41))
        have HP : Hid (partsK n ps (k + 1) = partK n (ps.getD k (0, 0))) := by show (if partsK n ps k = 0 then _ else _) = _; rw [if_pos h0.out]
        have HST : Hid (partK n (ps.getD k (0, 0)) ≠ 0 → K = partK n (ps.getD k (0, 0))) := fun h => by
          have h2 := partsK_stay (m := len) (by rw [HP.out]; exact h) (show k + 1 ≤ len by omega)
          rw [HE.out, if_neg (by rw [h2, HP.out]; exact h), h2, HP.out]
        have HPK : Hid (partK n (ps.getD k (0, 0)) = if (ps.getD k (0, 0)).1 < 0 ∨ n ≤ (ps.getD k (0, 0)).1 then 6 else if (ps.getD k (0, 0)).2 < 1 ∨ 4096 < (ps.getD k (0, 0)).2 then 1 else 0) := rfl
        generalize partK n (ps.getD k (0, 0)) = pk at HP HST HPK
        generalize (ps.getD k (0, 0)).1 = x at c1 HPK HBA
        generalize (ps.getD k (0, 0)).2 = y at c2 HPK HBA
        have HEND : Hid (Below w.heap.size w (wr.alloc (.cells #[.int .i64 x, .int .i64 y] 41))) := HB0.out.trans (HBA.out.mono HB0.out.size)
        by_cases hx : x < 0 ∨ n ≤ x
        · have e : K = 6 := by rw [HST.out (by rw [HPK.out, if_pos hx]; decide), HPK.out, if_pos hx]
          subst e
          by_cases hx1 : x < 0
          · go_wp2
            go_ret
            exact ⟨rfl, HEND.out⟩
          · have hx2 : n ≤ x := by omega
            go_wp2
            go_ret
            exact ⟨rfl, HEND.out⟩
        · have hx1 : ¬ x < 0 := by omega
          have hx2 : ¬ n ≤ x := by omega
          by_cases hy : y < 1 ∨ 4096 < y
          · have e : K = 1 := by rw [HST.out (by rw [HPK.out, if_neg hx, if_pos hy]; decide), HPK.out, if_neg hx, if_pos hy]
            subst e
            by_cases hy1 : y < 1
            · go_wp2
              go_ret
              exact ⟨rfl, HEND.out⟩
            · have hy2 : 4096 < y := by omega
              go_wp2
              go_ret
              exact ⟨rfl, HEND.out⟩
          · have hy1 : ¬ y < 1 := by omega
            have hy2 : ¬ 4096 < y := by omega
            have H1 : Hid (partsK n ps (k + 1) = 0) := by show _ = _; rw [HP.out, HPK.out, if_neg hx, if_neg hy]
            go_wp2
            go_roundw
            case rel => exact ⟨k + 1, by omega, by go_num, H1, HBA⟩
            case measure => simp [intOf]; omega
      · obtain rfl : k = len := by omega
        obtain ⟨_, p1⟩ := P0.out _ (by rw [Z1]; exact hb.out)
        have hK := HE.out
        rw [if_pos h0.out] at hK
        by_cases hd1 : div < 1
        · rw [if_pos (.inl hd1)] at hK
          subst hK
          go_wp2
          go_ret
          exact ⟨rfl, HB.out⟩
        · by_cases hd2 : 1073741824 < div
          · rw [if_pos (.inr hd2)] at hK
            subst hK
            go_wp2
            go_ret
            exact ⟨rfl, HB.out⟩
          · rw [if_neg (by omega)] at hK
            subst hK
            go_wp2
            go_ret
            exact ⟨rfl, HB.out⟩
end Go.Proofs.YtmjhjacbhflcpaaDoor
