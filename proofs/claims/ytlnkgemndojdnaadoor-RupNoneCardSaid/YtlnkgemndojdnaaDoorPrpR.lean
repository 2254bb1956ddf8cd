/- Whether clauses are true: prop.Value, the document's Value. -/
import Derived.Test.YtlnkgemndojdnaaDoorPrpQ
set_option linter.unusedVariables false
set_option linter.unusedSimpArgs false
namespace Go.Proofs.YtlnkgemndojdnaaDoor
set_option maxRecDepth 100000
open Go.RowKit

def Bools (B : Nat) (w : World) (a : Option Addr) (vs : List Bool) : Prop :=
  ∀ i, i < vs.length → ∃ b off, a = some ⟨b, off, none⟩ ∧ b < B ∧ w.cell? ⟨b, off + i, none⟩ = some (.bool (vs.getD i false))
theorem Bools.mono {B B' : Nat} {w : World} {a : Option Addr} {l : List Bool} (h : Bools B w a l) (hb : B ≤ B') : Bools B' w a l := fun i hi => by
  obtain ⟨b, off, ha, hlt, h1⟩ := h i hi
  exact ⟨b, off, ha, Nat.lt_of_lt_of_le hlt hb, h1⟩
theorem Bools.below {B : Nat} {w w' : World} {a : Option Addr} {l : List Bool} (h : Bools B w a l) (hb : Below B w w') : Bools B w' a l := fun i hi => by
  obtain ⟨b, off, ha, hlt, h1⟩ := h i hi
  exact ⟨b, off, ha, hlt, by rw [hb.cell (p := ⟨b, _, none⟩) hlt]; exact h1⟩
/-- Is a literal true? -/
def litV (vs : List Bool) (l : Int) : Bool := if 0 < l then decide (l ≤ vs.length) && vs.getD (l - 1).toNat false else decide (l < 0 ∧ -(vs.length : Int) ≤ l) && !vs.getD (-l - 1).toNat false
/-- The ways to reckon it. -/
inductive LitWay (vs : List Bool) (l : Int) (r : Bool) : Prop
  | zero : l = 0 → r = false → LitWay vs l r
  | far : 0 < l → (vs.length : Int) < l → r = false → LitWay vs l r
  | pos (k : Nat) (b : Bool) : l = (k : Int) + 1 → k < vs.length → vs.getD k false = b → r = b → LitWay vs l r
  | nfar : l < 0 → l < -(vs.length : Int) → r = false → LitWay vs l r
  | neg (k : Nat) (b : Bool) : l = -((k : Int) + 1) → k < vs.length → vs.getD k false = b → r = (!b) → LitWay vs l r
theorem lit_way (vs : List Bool) (l : Int) : LitWay vs l (litV vs l) := by
  unfold litV
  by_cases h : 0 < l
  · by_cases h2 : l ≤ vs.length
    · refine .pos (l - 1).toNat _ (by omega) (by omega) rfl ?_
      rw [if_pos h, decide_eq_true h2]; simp
    · refine .far h (by omega) ?_
      rw [if_pos h, decide_eq_false h2]; simp
  · by_cases h0 : l = 0
    · refine .zero h0 ?_
      rw [if_neg h, decide_eq_false (by omega)]; simp
    · by_cases h2 : -(vs.length : Int) ≤ l
      · refine .neg (-l - 1).toNat _ (by omega) (by omega) rfl ?_
        rw [if_neg h, decide_eq_true ⟨by omega, h2⟩]; simp
      · refine .nfar (by omega) (by omega) ?_
        rw [if_neg h, decide_eq_false (by omega)]; simp
set_option maxHeartbeats 1000000 in
theorem is_any (l : Int) (g : Nat) (a : Option Addr) (k cap : Nat) (vs : List Bool) (w : World) (hk : vs.length = k) (hkm : k ≤ 9223372036854775807) (hv : Bools w.heap.size w a vs) (hg : w.cell? ⟨g, 0, none⟩ = some (.slice a k cap)) :
    Calls Tryd.prog 22 #[.int .i64 l, .pointer (some ⟨g, 0, none⟩)] w fun e w' => e = .returned (.bool (litV vs l)) ∧ w = w' := by
  have hw1 : IntKind.i64.wrap (-(k : Int)) = -(k : Int) := IntWalk.i64_in _ (by omega)
  cases lit_way vs l with
  | zero h0 hr =>
    rw [hr]; subst h0
    clear hr hv
    go_enter Tryd.func22, Tryd.ntmps22
    go_wp2_with fail
    go_ret
    exact ⟨rfl, rfl⟩
  | far h1 h2 hr =>
    rw [hr]; rw [hk] at h2
    clear hr hv
    go_enter Tryd.func22, Tryd.ntmps22
    go_wp2_with fail
    go_ret
    exact ⟨rfl, rfl⟩
  | pos j b h1 h2 h3 hr =>
    obtain ⟨b2, off, rfl, hlt, c⟩ := hv j h2
    rw [h3] at c
    rw [hr]; rw [hk] at h2
    subst h1
    have hp : 0 < (j : Int) + 1 := by omega
    have hle : (j : Int) + 1 ≤ (k : Int) := by omega
    have hsb : IntKind.i64.wrap ((j : Int) + 1 - 1) = (j : Int) := by rw [show (j : Int) + 1 - 1 = j by omega]; exact IntWalk.i64_in _ (by omega)
    have hjk : (j : Int) < (k : Int) := by omega
    clear hr hv h3
    go_enter Tryd.func22, Tryd.ntmps22
    go_wp2_with fail
    go_ret
    exact ⟨rfl, rfl⟩
  | nfar h1 h2 hr =>
    rw [hr]; rw [hk] at h2
    clear hr hv
    go_enter Tryd.func22, Tryd.ntmps22
    go_wp2_with fail
    go_ret
    exact ⟨rfl, rfl⟩
  | neg j b h1 h2 h3 hr =>
    obtain ⟨b2, off, rfl, hlt, c⟩ := hv j h2
    rw [h3] at c
    rw [hr]; rw [hk] at h2
    subst h1
    have hp : -((j : Int) + 1) < 0 := by omega
    have hle : -(k : Int) ≤ -((j : Int) + 1) := by omega
    have hjk : (j : Int) < (k : Int) := by omega
    clear hr hv h3
    go_enter Tryd.func22, Tryd.ntmps22
    go_wp2_with fail
    go_ret
    exact ⟨rfl, rfl⟩
end Go.Proofs.YtlnkgemndojdnaaDoor
