/- The statements' own helpers: which number an error has; whether two forms are the same. -/
import Derived.Test.YtknagcednppokaaLinU
import Derived.LaidEql
namespace Go.Proofs.Ytknagcednppokaa
open Go.RowKit

theorem Try.eqIfaceNil (k : Int) (w : World) : (binOp .eql 30 (.iface 53 (.int .i64 k)) .nilIface).run Try.prog w = .ok (.bool false) w := by simp [go_sem]

set_option maxHeartbeats 400000 in
theorem code_nil (w : World) : Calls Try.prog 13 #[.nilIface] w fun e w' => e = .returned (.int .i64 0) ∧ w = w' := by
  go_enter Try.func13, Try.ntmps13
  go_wp2
  go_ret
  exact ⟨rfl, rfl⟩

set_option maxHeartbeats 800000 in
theorem code_k (k : Int) (w : World) (h1 : 1 ≤ k) (h2 : k ≤ 16) : Calls Try.prog 13 #[.iface 53 (.int .i64 k)] w fun e w' => e = .returned (.int .i64 k) ∧ w = w' := by
  have heq := fun (j : Int) W => Try.eqCode k j W
  go_enter Try.func13, Try.ntmps13
  go_wp2
  go_loop [3] (fun c => ∃ j : Int, 1 ≤ j ∧ j ≤ k ∧ c = .int .i64 j) (fun c => (k - intOf c).toNat)
  case atStart => exact ⟨1, by omega, h1, rfl⟩
  case round =>
    obtain ⟨j, hj1, hj2, rfl⟩ := hrel
    by_cases e : j = k
    · subst e
      have hb : (j == j) = true := by simp
      go_wp2
      go_ret
      exact ⟨rfl, rfl⟩
    · have hb : (k == j) = false := by simp; omega
      go_wp2
      go_round
      case rel => exact ⟨j + 1, by omega, by omega, rfl⟩
      case measure => simp [intOf]; omega

/-- Whether two forms are the same. -/
def same (c d : Int) (l m : List (Int × Int)) : Bool := decide (c = d) && decide (l = m)

theorem list_eq_of {l m : List (Int × Int)} (hl : l.length = m.length) (h : ∀ i, i < l.length → l.getD i (0, 0) = m.getD i (0, 0)) : l = m := by
  apply List.ext_getElem hl
  intro i h1 h2
  have := h i h1
  rw [List.getD_eq_getElem?_getD, List.getElem?_eq_getElem h1, List.getD_eq_getElem?_getD, List.getElem?_eq_getElem h2] at this
  simpa using this

theorem Try.neMono (x y u v : Int) (w : World) : (binOp .neq 51 (.agg #[.int .i64 x, .int .i64 y]) (.agg #[.int .i64 u, .int .i64 v])).run Try.prog w = .ok (.bool (!(x == u && y == v))) w := by
  simp [go_sem]
  by_cases h1 : x = u <;> by_cases h2 : y = v <;> simp [h1, h2]

set_option maxHeartbeats 1000000 in
theorem same_any (c d : Int) (a b : Option Addr) (na nb capa capb : Nat) (l m : List (Int × Int)) (w : World) (hna : l.length = na) (hnb : m.length = nb) (hma : na ≤ 9223372036854775807) (hmb : nb ≤ 9223372036854775807) (hla : Lies w.heap.size w a l) (hlb : Lies w.heap.size w b m) :
    Calls Try.prog 33 #[.agg #[.int .i64 c, .slice a na capa], .agg #[.int .i64 d, .slice b nb capb]] w fun e w' => e = .returned (.bool (same c d l m)) ∧ Below w.heap.size w w' := by
  have HB0 : Hid (Below w.heap.size w ((w.alloc (.cells #[.int .i64 c, .slice a na capa] 24)).alloc (.cells #[.int .i64 d, .slice b nb capb] 24))) := ((Below.refl _ w).alloc (Nat.le_refl _) _).alloc (by simp) _
  by_cases hcd : c = d
  · subst hcd
    have hcc : (c != c) = false := by simp
    by_cases hnn : na = nb
    · subst hnn
      have hnn' : ((na : Int) != (na : Int)) = false := by simp
      have HS : Hid (∀ r, (r = true ↔ ∀ i, i < na → l.getD i (0, 0) = m.getD i (0, 0)) → same c c l m = r) := fun r hr => by
        unfold same
        rw [decide_eq_true rfl, Bool.true_and, Bool.eq_iff_iff, hr]
        simp only [decide_eq_true_eq]
        exact ⟨fun h i _ => by rw [h], fun h => list_eq_of (by omega) (fun i hi => h i (by omega))⟩
      have HNA := Lib.hid hna
      have HNB := Lib.hid hnb
      have HLA := Lib.hid hla
      have HLB := Lib.hid hlb
      clear hna hnb hla hlb
      go_enter Try.func33, Try.ntmps33
      go_wp2
      go_loopw [5] (fun i wr => ∃ k : Nat, k ≤ na ∧ i = .int .i64 k ∧ Hid (∀ j, j < k → l.getD j (0, 0) = m.getD j (0, 0)) ∧ Hid (∃ q, wr = ((w.alloc (.cells #[.int .i64 c, .slice a na capa] 24)).alloc (.cells #[.int .i64 c, .slice b na capb] 24)).drewN q)) (fun i _ => na - (intOf i).toNat)
      case atStart => exact ⟨0, Nat.zero_le _, rfl, fun j hj => absurd hj (Nat.not_lt_zero j), 0, rfl⟩
      case round =>
        obtain ⟨k, hk, rfl, hok, hw⟩ := hrel
        obtain ⟨q, hw⟩ := hw.out
        subst hw
        by_cases hlt : k < na
        · obtain ⟨ab, aoff, rfl, hab, a1, a2⟩ := (HLA.out.below HB0.out) k (by rw [HNA.out]; exact hlt)
          obtain ⟨bb, boff, rfl, hbb, b1, b2⟩ := (HLB.out.below HB0.out) k (by rw [HNB.out]; exact hlt)
          have a1' : ∀ q, (((w.alloc (.cells #[.int .i64 c, .slice (some ⟨ab, aoff, none⟩) na capa] 24)).alloc (.cells #[.int .i64 c, .slice (some ⟨bb, boff, none⟩) na capb] 24)).drewN q).cell? ⟨ab, aoff + k * 2, none⟩ = some (.int .i64 (l.getD k (0, 0)).1) := fun _ => a1
          by_cases e : l.getD k (0, 0) = m.getD k (0, 0)
          · have hok2 : Hid (∀ j, j < k + 1 → l.getD j (0, 0) = m.getD j (0, 0)) := fun j hj => by
              by_cases ej : j = k
              · rw [ej]; exact e
              · exact hok.out j (by omega)
            rw [← e] at b1 b2
            generalize l.getD k (0, 0) = p at a1 a2 b1 b2 e a1'
            obtain ⟨v, u⟩ := p
            clear e
            have hne : ∀ W, (binOp .neq 51 (.agg #[.int .i64 v, .int .i64 u]) (.agg #[.int .i64 v, .int .i64 u])).run Try.prog W = .ok (.bool false) W := fun W => by rw [Try.neMono]; simp
            have hbw1 : ab < w.heap.size := hab
            have hbw2 : bb < w.heap.size := hbb
            go_wp2_with fail
            go_quiet (fail)
            go_wp2
            go_roundw
            case rel => exact ⟨k + 1, by omega, by go_num, hok2, ⟨_, rfl⟩⟩
            case measure => simp [intOf]; omega
          · have hF := Lib.hid (HS.out false ⟨fun h => absurd h (by decide), fun h => absurd (h k hlt) e⟩)
            generalize l.getD k (0, 0) = p at a1 a2 e a1'
            generalize m.getD k (0, 0) = p' at b1 b2 e
            obtain ⟨v, u⟩ := p
            obtain ⟨v', u'⟩ := p'
            have hne : ∀ W, (binOp .neq 51 (.agg #[.int .i64 v, .int .i64 u]) (.agg #[.int .i64 v', .int .i64 u'])).run Try.prog W = .ok (.bool true) W := fun W => by
              rw [Try.neMono]
              have : (v == v' && u == u') = false := by
                rw [Bool.eq_false_iff]
                intro h
                simp only [Bool.and_eq_true, beq_iff_eq] at h
                exact e (by rw [h.1, h.2])
              rw [this]; rfl
            clear e
            have hbw1 : ab < w.heap.size := hab
            have hbw2 : bb < w.heap.size := hbb
            go_wp2_with fail
            go_quiet (fail)
            go_wp2
            go_ret
            exact ⟨ret_bool hF.out.symm, below_drewN (below_drewN HB0.out q) nq⟩
        · have HF := Lib.hid (HS.out true ⟨fun _ i hi => hok.out i (by omega), fun _ => rfl⟩)
          go_wp2
          go_ret
          exact ⟨ret_bool HF.out.symm, below_drewN HB0.out q⟩
    · have hnn' : ((na : Int) != (nb : Int)) = true := by simp; omega
      have HS : Hid (same c c l m = false) := by
        show _ = _
        unfold same
        rw [decide_eq_false (p := l = m) (fun h => by subst h; omega)]; simp
      clear hna hnb hla hlb
      go_enter Try.func33, Try.ntmps33
      go_wp2
      go_ret
      exact ⟨ret_bool HS.out.symm, HB0.out⟩
  · have hcc : (c != d) = true := by simpa using hcd
    have HS : Hid (same c d l m = false) := by
      show _ = _
      unfold same
      rw [decide_eq_false hcd]; rfl
    clear hna hnb hla hlb
    go_enter Try.func33, Try.ntmps33
    go_wp2
    go_ret
    exact ⟨ret_bool HS.out.symm, HB0.out⟩
end Go.Proofs.Ytknagcednppokaa
