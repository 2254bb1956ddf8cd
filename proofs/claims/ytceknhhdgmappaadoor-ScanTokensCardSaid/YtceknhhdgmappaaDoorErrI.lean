/- What an error is: a code, or a place with a code; which number an error has. -/
import Derived.WalkKit
import Derived.Below
import Derived.Lib.Hide
import Derived.LaidEql
import Derived.Test.YtceknhhdgmappaaDoorChecked
set_option linter.unusedVariables false
set_option linter.unusedSimpArgs false
namespace Go.Proofs.YtceknhhdgmappaaDoor
set_option maxRecDepth 100000
open Go.RowKit

theorem Tryd.eqIface (t : TypeId) (v : Value) (w : World) : (binOp .eql 25 (.iface t v) .nilIface).run Tryd.prog w = .ok (.bool false) w := by simp [go_sem]
theorem Tryd.eqNil (w : World) : (binOp .eql 25 .nilIface .nilIface).run Tryd.prog w = .ok (.bool true) w := by simp [go_sem]
theorem Tryd.neIface (t : TypeId) (v : Value) (w : World) : (binOp .neq 25 (.iface t v) .nilIface).run Tryd.prog w = .ok (.bool true) w := by simp [go_sem]
theorem Tryd.neNil (w : World) : (binOp .neq 25 .nilIface .nilIface).run Tryd.prog w = .ok (.bool false) w := by simp [go_sem]
section
variable {P : Program} (w : World)
theorem run_equalIn_iface_int (d : Nat) {ti tn : TypeId} {ms : Array (String × TypeId)} {i : TypeInfo} {k : IntKind} (a b : Int)
    (hi : P.underlying ti = some (.interface ms)) (hn : P.underlying tn = some (.int k)) (hinfo : P.info? tn = some i) (hcomp : i.comparable = true) :
    (Op.equalIn (d + 2) ti (.iface tn (.int k a)) (.iface tn (.int k b))).run P w = .ok (a == b) w := by
  simp [Op.equalIn, run_underlying hi, run_underlying hn, typeInfo, hinfo, hcomp]
theorem run_eql_iface_int {ti tn : TypeId} {ms : Array (String × TypeId)} {i : TypeInfo} {k : IntKind} (a b : Int)
    (hi : P.underlying ti = some (.interface ms)) (hn : P.underlying tn = some (.int k)) (hinfo : P.info? tn = some i) (hcomp : i.comparable = true) :
    (binOp .eql ti (.iface tn (.int k a)) (.iface tn (.int k b))).run P w = .ok (.bool (a == b)) w := by
  simp only [binOp]
  simp [Op.equal, Op.maxDepth, run_equalIn_iface_int w 9998 a b hi hn hinfo hcomp]
end
theorem Tryd.eqCode (a b : Int) (w : World) : (binOp .eql 25 (.iface 39 (.int .i64 a)) (.iface 39 (.int .i64 b))).run Tryd.prog w = .ok (.bool (a == b)) w :=
  run_eql_iface_int (P := Tryd.prog) w a b Tryd.underlying25 Tryd.underlying39 (i := Tryd.t39) (by kernel_rfl) (by kernel_rfl)
set_option maxHeartbeats 400000 in
theorem code_nil (w : World) : Calls Tryd.prog 15 #[.nilIface] w fun e w' => e = .returned (.int .i64 0) ∧ w = w' := by
  go_enter Tryd.func15, Tryd.ntmps15
  go_wp2
  go_ret
  exact ⟨rfl, rfl⟩
set_option maxHeartbeats 800000 in
theorem code_k (k : Int) (w : World) (h1 : 1 ≤ k) (h2 : k ≤ 16) : Calls Tryd.prog 15 #[.iface 39 (.int .i64 k)] w fun e w' => e = .returned (.int .i64 k) ∧ w = w' := by
  have heq := fun (j : Int) W => Tryd.eqCode k j W
  go_enter Tryd.func15, Tryd.ntmps15
  go_wp2
  go_loop [3] (fun c => ∃ j : Int, 1 ≤ j ∧ j ≤ k ∧ c = .int .i64 j) (fun c => (k - intOf c).toNat)
  case atStart => exact ⟨1, by omega, h1, rfl⟩
  case round =>
    obtain ⟨j, hj1, hj2, rfl⟩ := hrel
    by_cases e : j = k
    · subst e
      have hb : (j == j) = true := by simp
      go_wp2
      go_ret
      exact ⟨rfl, rfl⟩
    · have hb : (k == j) = false := by simp; omega
      go_wp2
      go_round
      case rel => exact ⟨j + 1, by omega, by omega, rfl⟩
      case measure => simp [intOf]; omega
/-- An error that is a code; none is 0. -/
def codeV (k : Int) : Value := if k = 0 then .nilIface else .iface 39 (.int .i64 k)
theorem codeV_zero : codeV 0 = .nilIface := rfl
theorem codeV_ne {k : Int} (h : k ≠ 0) : codeV k = .iface 39 (.int .i64 k) := if_neg h
/-- An error: a code, or a place with a code. -/
def ErrIs (B : Nat) (x at' : Int) (er : Value) (w : World) : Prop :=
  (at' < 0 → er = codeV x) ∧ (0 ≤ at' → ∃ g, er = .iface 43 (.pointer (some ⟨g, 0, none⟩)) ∧ B ≤ g ∧ g < w.heap.size ∧ w.cell? ⟨g, 0, none⟩ = some (.int .i64 at') ∧ w.cell? ⟨g, 1, none⟩ = some (codeV x))
theorem ErrIs.below {B : Nat} {x at' : Int} {er : Value} {w w' : World} (h : ErrIs B x at' er w) (hb : Below w.heap.size w w') : ErrIs B x at' er w' :=
  ⟨h.1, fun h0 => by
    obtain ⟨g, e1, e2, e3, e4, e5⟩ := h.2 h0
    exact ⟨g, e1, e2, Nat.lt_of_lt_of_le e3 hb.size, (hb.cell (p := ⟨g, 0, none⟩) e3).trans e4, (hb.cell (p := ⟨g, 1, none⟩) e3).trans e5⟩⟩
end Go.Proofs.YtceknhhdgmappaaDoor
