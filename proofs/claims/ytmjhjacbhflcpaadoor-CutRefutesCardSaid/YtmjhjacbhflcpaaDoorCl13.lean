/- errors.As, errors.Is at a *api.Spot; whether an error is a Spot; Told. Whether an error is a Spot with its place and code; Told. The document's Lines whole; CutLines: its walk. Which numbers an error has; the document's Refutes. CutLines: its walk. -/
import Derived.Test.YtmjhjacbhflcpaaDoorCl02
import Derived.Test.YtmjhjacbhflcpaaDoorCl07
import Derived.Test.YtmjhjacbhflcpaaDoorCl10
import Derived.Test.YtmjhjacbhflcpaaDoorCl11
import Derived.Test.YtmjhjacbhflcpaaDoorCl12
import Derived.Lib.QuietBelow
import Derived.BigQuiet
set_option linter.unusedVariables false
set_option linter.unusedSimpArgs false
namespace Go.Proofs.YtmjhjacbhflcpaaDoor
open Go.RowKit Go.Extern.Stop Go.Stop Go.Extern

set_option maxHeartbeats 4000000 in
theorem as_hit (e t : Addr) (old : Value) (w : World) (hg : w.cell? ⟨0, 0, none⟩ = some (.iface 93 (.agg #[.pointer (some ⟨1, 27, none⟩)]))) (ht0 : w.cell? t = some old) (hf0 : w.frozen? t = false) :
    Calls Tryd.prog 22 #[.iface 51 (.pointer (some e)), .iface 63 (.pointer (some t))] w fun ev w' => ev = .returned (.bool true) ∧ w' = ((((w.alloc (.cells #[.pointer (some t)] 63)).alloc (.cells #[.pointer (some ⟨1, 63, none⟩), .pointer (some ⟨w.heap.size, 0, none⟩), .int .u64 150] 80)).alloc (.cells #[.pointer (some ⟨1, 63, none⟩), .pointer (some ⟨w.heap.size, 0, none⟩), .int .u64 150] 80)).alloc (.cells #[.pointer (some e)] 51)).setCell t (.pointer (some e)) := by
  have h6 := @run_callFunc_extern Tryd.prog 36 _ (fun args => ReflectliteValue.unpack (args.getD 0 (.tuple #[]))) Tryd.func36 (by kernel_rfl) (by kernel_rfl) (by kernel_rfl) (by kernel_rfl)
  have h7 := @run_callFunc_extern Tryd.prog 37 _ (ReflectliteValue.methodAny (ReflectliteValue.valueError "reflectlite.Value.Type" 0) (fun t _ _ _ => ReflectliteType.toType t)) Tryd.func37 (by kernel_rfl) (by kernel_rfl) (by kernel_rfl) (by kernel_rfl)
  have h8 := @run_callFunc_extern Tryd.prog 38 _ (ReflectliteValue.method (ReflectliteValue.valueError "reflectlite.Value.IsNil" 0) ReflectliteValue.isNil) Tryd.func38 (by kernel_rfl) (by kernel_rfl) (by kernel_rfl) (by kernel_rfl)
  have h27 := @run_callFunc_extern Tryd.prog 80 _ (ReflectliteType.abiMethod fun t => do pure (.int .u8 (← Rtype.kind t))) Tryd.func80 (by kernel_rfl) (by kernel_rfl) (by kernel_rfl) (by kernel_rfl)
  have h37 := @run_callFunc_extern Tryd.prog 92 _ (ReflectliteType.method ReflectliteType.elem) Tryd.func92 (by kernel_rfl) (by kernel_rfl) (by kernel_rfl) (by kernel_rfl)
  have h38 := @run_callFunc_extern Tryd.prog 93 _ (ReflectliteType.relation "Implements" ReflectliteType.implements_) Tryd.func93 (by kernel_rfl) (by kernel_rfl) (by kernel_rfl) (by kernel_rfl)
  have h10 := @run_callFunc_extern Tryd.prog 40 _ ReflectliteType.typeOf Tryd.func40 (by kernel_rfl) (by kernel_rfl) (by kernel_rfl) (by kernel_rfl)
  have h35 := @run_callFunc_extern Tryd.prog 90 _ (ReflectliteType.relation "AssignableTo" ReflectliteType.assignableTo) Tryd.func90 (by kernel_rfl) (by kernel_rfl) (by kernel_rfl) (by kernel_rfl)
  have h11 := @run_callFunc_extern Tryd.prog 44 _ (ReflectliteValue.method (ReflectliteValue.valueError "reflectlite.Value.Elem" 0) ReflectliteValue.elem) Tryd.func44 (by kernel_rfl) (by kernel_rfl) (by kernel_rfl) (by kernel_rfl)
  have h12 := @run_callFunc_extern Tryd.prog 45 _ ReflectliteValue.set Tryd.func45 (by kernel_rfl) (by kernel_rfl) (by kernel_rfl) (by kernel_rfl)
  have tO := Tryd.typeOfP
  have mA := Tryd.methodAssignableTo
  have a25 := Tryd.assignableP
  have v25 := Tryd.valueOfP
  have f6 := Tryd.valueOfPP
  have f7 := Tryd.typePP
  have mK := Tryd.methodKind
  have mE := Tryd.methodElem
  have mI := Tryd.methodImplements
  have k27 := Tryd.kindPP
  have k25 := Tryd.kindP
  have e27 := Tryd.elemPP
  have i25 := Tryd.implementsP
  have n8 := Tryd.isNilPP ⟨w.heap.size, 0, none⟩ t ((w.alloc (.cells #[.pointer (some t)] 63)).alloc (.cells #[.pointer (some ⟨1, 63, none⟩), .pointer (some ⟨w.heap.size, 0, none⟩), .int .u64 150] 80)) (by simp)
  have hlt : 0 < w.heap.size := by
    rcases Nat.eq_zero_or_pos w.heap.size with h0 | h
    · simp [World.cell?, h0] at hg
    · exact h
  have hg2 : ((w.alloc (.cells #[.pointer (some t)] 63)).alloc (.cells #[.pointer (some ⟨1, 63, none⟩), .pointer (some ⟨w.heap.size, 0, none⟩), .int .u64 150] 80)).cell? ⟨0, 0, none⟩ = some (.iface 93 (.agg #[.pointer (some ⟨1, 27, none⟩)])) := by
    rw [World.cell?_alloc_lt _ _ ⟨0, 0, none⟩ (by simp), World.cell?_alloc_lt _ _ ⟨0, 0, none⟩ hlt]; exact hg
  have htl : t.block < w.heap.size := by
    rcases Nat.lt_or_ge t.block w.heap.size with h | h
    · exact h
    · simp [World.cell?, Array.getElem?_eq_none h] at ht0
  have el := Tryd.elemVPP ⟨w.heap.size, 0, none⟩ t (((w.alloc (.cells #[.pointer (some t)] 63)).alloc (.cells #[.pointer (some ⟨1, 63, none⟩), .pointer (some ⟨w.heap.size, 0, none⟩), .int .u64 150] 80)).alloc (.cells #[.pointer (some ⟨1, 63, none⟩), .pointer (some ⟨w.heap.size, 0, none⟩), .int .u64 150] 80)) (by rw [World.cell?_alloc_lt _ _ ⟨w.heap.size, 0, none⟩ (by simp; omega)]; simp)
  have st := Tryd.setP t ⟨w.heap.size + 1 + 1 + 1, 0, none⟩ e old ((((w.alloc (.cells #[.pointer (some t)] 63)).alloc (.cells #[.pointer (some ⟨1, 63, none⟩), .pointer (some ⟨w.heap.size, 0, none⟩), .int .u64 150] 80)).alloc (.cells #[.pointer (some ⟨1, 63, none⟩), .pointer (some ⟨w.heap.size, 0, none⟩), .int .u64 150] 80)).alloc (.cells #[.pointer (some e)] 51))
    (by rw [World.cell?_alloc_at _ _ _ _ (by simp)]; rfl)
    (by rw [World.cell?_alloc_lt _ _ t (by simp; omega), World.cell?_alloc_lt _ _ t (by simp; omega), World.cell?_alloc_lt _ _ t (by simp; omega), World.cell?_alloc_lt _ _ t htl]; exact ht0)
    (by rw [World.frozen?_alloc_old _ _ t (by simp; omega), World.frozen?_alloc_old _ _ t (by simp; omega), World.frozen?_alloc_old _ _ t (by simp; omega), World.frozen?_alloc_old _ _ t (Nat.ne_of_lt htl)]; exact hf0)
  go_enter Tryd.func22, Tryd.ntmps22
  go_wp2
  refine wp_loop_rounds 1 ?_
  rw [rounds_succ]
  go_wp2
  go_ret
  exact ⟨rfl, rfl⟩
/-- In plain words: the place gets the pointer; what lies below it is as it was. -/
theorem as_spot (e : Addr) (b : Nat) (old : Value) (w : World) (hg : w.cell? ⟨0, 0, none⟩ = some (.iface 93 (.agg #[.pointer (some ⟨1, 27, none⟩)]))) (ht0 : w.cell? ⟨b, 0, none⟩ = some old) (hf0 : w.frozen? ⟨b, 0, none⟩ = false) (hb : b < w.heap.size) :
    Calls Tryd.prog 22 #[.iface 51 (.pointer (some e)), .iface 63 (.pointer (some ⟨b, 0, none⟩))] w fun ev w' => ev = .returned (.bool true) ∧ w'.cell? ⟨b, 0, none⟩ = some (.pointer (some e)) ∧ Below b w w' ∧ b < w'.heap.size := by
  refine (as_hit e ⟨b, 0, none⟩ old w hg ht0 hf0).mono ?_
  rintro ev w' ⟨rfl, rfl⟩
  have hA : Below w.heap.size w ((((w.alloc (.cells #[.pointer (some ⟨b, 0, none⟩)] 63)).alloc (.cells #[.pointer (some ⟨1, 63, none⟩), .pointer (some ⟨w.heap.size, 0, none⟩), .int .u64 150] 80)).alloc (.cells #[.pointer (some ⟨1, 63, none⟩), .pointer (some ⟨w.heap.size, 0, none⟩), .int .u64 150] 80)).alloc (.cells #[.pointer (some e)] 51)) := by
    refine Below.alloc (Below.alloc (Below.alloc (Below.alloc (Below.refl _ _) ?_ _) ?_ _) ?_ _) ?_ _ <;> simp <;> omega
  refine ⟨rfl, World.cell?_setCell_same _ _ _ ((hA.cell (p := ⟨b, 0, none⟩) hb).trans ht0), (hA.mono (Nat.le_of_lt hb)).setCell (p := ⟨b, 0, none⟩) (Nat.le_refl _) _, ?_⟩
  rw [World.size_setCell]
  exact Nat.lt_of_lt_of_le hb hA.size

theorem Tryd.noIsP (v : Value) (xT : TypeId) (w : World) : (Instr.typeAssert (.iface 51 v) xT 105 true).run Tryd.prog w = .ok (.tuple #[.nilIface, .bool false]) w := run_typeAssert_lacksB Tryd.underlying105 (by kernel_rfl) (by kernel_rfl) v xT w
theorem Tryd.hasUnwrapP (v : Value) (xT : TypeId) (w : World) : (Instr.typeAssert (.iface 51 v) xT 100 true).run Tryd.prog w = .ok (.tuple #[.iface 51 v, .bool true]) w := run_typeAssert_hasB Tryd.underlying100 (by kernel_rfl) v xT w
theorem Tryd.methodUnwrapP (v : Value) (w : World) : (Go.method 260 51 v "Unwrap").run Tryd.prog w = .ok (85, v) w := by kernel_rfl
/-- errors.Is of a Spot with that code. -/
theorem is_spotcode (g : Nat) (k : Int) (w : World) (h1 : w.cell? ⟨g, 1, none⟩ = some (.iface 42 (.int .i64 k))) :
    Calls Tryd.prog 23 #[.iface 51 (.pointer (some ⟨g, 0, none⟩)), .iface 42 (.int .i64 k)] w fun e w' => e = .returned (.bool true) ∧ w' = w := by
  have h8 := @run_callFunc_extern Tryd.prog 40 _ Extern.ReflectliteType.typeOf Tryd.func40 (by kernel_rfl) (by kernel_rfl) (by kernel_rfl) (by kernel_rfl)
  have h32 := @run_callFunc_extern Tryd.prog 91 _ (Extern.ReflectliteType.method fun t => do Rtype.noPackHeld "Comparable" t; pure (.bool (← typeInfo t).comparable)) Tryd.func91 (by kernel_rfl) (by kernel_rfl) (by kernel_rfl) (by kernel_rfl)
  have hC : ∀ W, (callFunc 91 #[.agg #[.pointer (some ⟨1, 42, none⟩)]]).run Tryd.prog W = .ok (.value (.bool true)) W := fun W => by rw [h32, Tryd.comparableC]; rfl
  clear h32
  have tT := Tryd.typeOfC
  have mR := Tryd.methodComparable
  have nW := Tryd.noIsP
  have uW := Tryd.hasUnwrapP
  have mU := Tryd.methodUnwrapP
  have heq := Tryd.eqCode k k w
  have hkk : (k == k) = true := by simp
  have hty := run_eql_iface_types (P := Tryd.prog) 51 42 (.pointer (some ⟨g, 0, none⟩)) (.int .i64 k) Tryd.underlying27 (by decide) w
  go_enter Tryd.func23, Tryd.ntmps23
  go_wp2
  refine wp_loop_rounds 2 ?_
  rw [rounds_succ]
  go_wp2
  rw [rounds_succ]
  go_wp2
  go_ret
  exact ⟨rfl, rfl⟩
end Go.Proofs.YtmjhjacbhflcpaaDoor

namespace Go.Proofs.YtmjhjacbhflcpaaDoor
open Go.RowKit Go.Extern.Stop Go.Stop Go.Extern

/-- The listed variable's cell. -/
def Laid0 (w : World) : Prop := w.cell? ⟨0, 0, none⟩ = some (.iface 93 (.agg #[.pointer (some ⟨1, 27, none⟩)]))
theorem Laid0.pos {w : World} (h : Laid0 w) : 0 < w.heap.size := by
  rcases Nat.eq_zero_or_pos w.heap.size with h0 | h1
  · unfold Laid0 at h; simp [World.cell?, h0] at h
  · exact h1
theorem Laid0.below {w w' : World} {B : Nat} (h : Laid0 w) (hb : Below B w w') (hB : 0 < B) : Laid0 w' := (hb.cell (p := ⟨0, 0, none⟩) hB).trans h
theorem Tryd.isCompP : (Tryd.prog.info? 51).map (·.comparable) = some true := by kernel_rfl
theorem Tryd.isSizeS : (Tryd.prog.info? 53).map (·.size) = some 2 := by kernel_rfl
theorem Tryd.neSame (g : Addr) (W : World) : (binOp .neq 27 (.iface 51 (.pointer (some g))) (.iface 51 (.pointer (some g)))).run Tryd.prog W = .ok (.bool false) W := by
  obtain ⟨i, hi, hcmp⟩ := Option.map_eq_some_iff.1 Tryd.isCompP
  obtain ⟨j, hj, hjs⟩ := Option.map_eq_some_iff.1 Tryd.isSizeS
  simp only [binOp]
  simp [Op.equal, Op.maxDepth, run_equalIn_iface_ptr_same (P := Tryd.prog) W 9998 g Tryd.underlying27 Tryd.underlying51 hi hcmp hj]

set_option maxHeartbeats 1000000 in
theorem is_any (g : Nat) (at' k : Int) (w : World) (hg : Laid0 w) (hgb : g < w.heap.size) (h0 : w.cell? ⟨g, 0, none⟩ = some (.int .i64 at')) (h1 : w.cell? ⟨g, 1, none⟩ = some (.iface 42 (.int .i64 k))) :
    Calls Tryd.prog 14 #[.iface 51 (.pointer (some ⟨g, 0, none⟩)), .int .i64 at', .int .i64 k] w fun e w' => e = .returned (.bool true) ∧ Below w.heap.size w w' := by
  have hb0 : Below w.heap.size w (w.alloc (.cells #[.pointer none] 51)) := (Below.refl _ w).alloc (Nat.le_refl _) _
  have hn := heap_alloc_new w (.cells #[.pointer none] 51)
  have HAS := Lib.hid (as_spot ⟨g, 0, none⟩ w.heap.size (.pointer none) (w.alloc (.cells #[.pointer none] 51)) (hg.below hb0 hg.pos) ((cell_of_row _ _ _ _ _ _ hn).trans rfl) (frozen_of_row _ _ _ _ _ hn) (lt_of_some hn))
  have HB0 := Lib.hid hb0
  have HIS := Lib.hid (fun W h => is_spotcode g k W h)
  have ne := Tryd.neSame ⟨g, 0, none⟩
  have e1 := fun W => Tryd.eqCode k k W
  have hkk : (k == k) = true := by simp
  have haa : (at' == at') = true := by simp
  clear hg hn hb0
  go_enter Tryd.func14, Tryd.ntmps14
  go_wp2_with fail
  refine HAS.out.mono ?_
  rintro e w1 ⟨rfl, hc1, hb1, hz1⟩
  have q0 : w1.cell? ⟨g, 0, none⟩ = some (.int .i64 at') := (hb1.cell (p := ⟨g, 0, none⟩) hgb).trans ((HB0.out.cell (p := ⟨g, 0, none⟩) hgb).trans h0)
  have q1 : w1.cell? ⟨g, 1, none⟩ = some (.iface 42 (.int .i64 k)) := (hb1.cell (p := ⟨g, 1, none⟩) hgb).trans ((HB0.out.cell (p := ⟨g, 1, none⟩) hgb).trans h1)
  have HB1 : Hid (Below w.heap.size w w1) := HB0.out.trans hb1
  clear hb1 h0 h1 HAS
  go_wp2_with fail
  refine (HIS.out _ q1).mono ?_
  rintro e w2 ⟨rfl, rfl⟩
  go_wp2_with fail
  go_ret
  exact ⟨rfl, HB1.out⟩

/-- Told: the error is the one of this number, at this place. -/
theorem told_any {B : Nat} {x at' : Int} {er : Value} {w : World} (h : ErrIs B x at' er w) (hx : 0 ≤ x ∧ x ≤ 16) (hp : 0 ≤ at' → x ≠ 0) (hg : Laid0 w) :
    Calls Tryd.prog 11 #[er, .int .i64 x, .int .i64 at'] w fun e w' => e = .returned (.bool true) ∧ Below w.heap.size w w' := by
  have hxx : (x == x) = true := by simp
  by_cases ha : at' < 0
  · have HC : Hid (∀ W, Calls Tryd.prog 21 #[codeV x] W fun e w' => e = .returned (.int .i64 x) ∧ W = w') := fun W => by
      by_cases h0 : x = 0
      · rw [h0, codeV_zero]; exact code_nil W
      · rw [codeV_ne h0]; exact code_k x W (by omega) (by omega)
    rw [h.1 ha]
    clear h hg
    go_enter Tryd.func11, Tryd.ntmps11
    go_wp2_with fail
    refine (HC.out _).mono ?_
    rintro e w1 ⟨rfl, rfl⟩
    go_wp2_with fail
    go_ret
    exact ⟨rfl, Below.refl _ _⟩
  · obtain ⟨g, e1, _, e3, e4, e5⟩ := h.2 (by omega)
    rw [codeV_ne (hp (by omega))] at e5
    have HI := Lib.hid (is_any g at' x w hg e3 e4 e5)
    rw [e1]
    clear h hg e1 e4 e5
    go_enter Tryd.func11, Tryd.ntmps11
    go_wp2_with fail
    refine HI.out.mono ?_
    rintro e w1 ⟨rfl, hb1⟩
    go_wp2_with fail
    go_ret
    exact ⟨rfl, hb1⟩
end Go.Proofs.YtmjhjacbhflcpaaDoor

namespace Go.Proofs.YtmjhjacbhflcpaaDoor
open Go.RowKit Go.Maps

theorem rstep_said : RStepSaid := fun a n cap ls pa pn pcap ps div w hn hm hl hok hpn hpm hp R hR x C E hx => rstep_any a n cap ls pa pn pcap ps div w hn hm hl hok hpn hpm hp R hR x C E hx
theorem rlines_any (hstep : RStepSaid) (a : Option Addr) (n cap : Nat) (ls : List (Int × List (Int × Int))) (sa : Option Addr) (sn scap : Nat) (ss : List (List (Int × Int) × Int)) (w : World) (h : Given w.heap.size w a n ls sa sn ss) (x at' : Int) (L : List (Int × List (Int × Int))) (hL : LinesIs ls ss x at' L) :
    Calls Tryd.prog 9 #[.slice a n cap, .slice sa sn scap] w (RLinesEnd w.heap.size x at' L w) := by
  by_cases hl : 4096 < n ∨ 4096 < sn
  · have := rlines_long a n cap sa sn scap w hl
    cases hL with
    | long _ => exact this
    | prem i g1 g2 => rw [h.ln] at g1; rw [h.sl] at g2; omega
    | step i g1 g2 => rw [h.ln] at g1; rw [h.sl] at g2; omega
    | ok g1 g2 => rw [h.ln] at g1; rw [h.sl] at g2; omega
  · exact rlines_walk hstep a n cap ls sa sn scap ss w h.ln (by omega) h.ll h.lm h.sl (by omega) h.sll x at' L hL
end Go.Proofs.YtmjhjacbhflcpaaDoor

namespace Go.Proofs.YtmjhjacbhflcpaaDoor
open Go.RowKit Go.Maps

theorem partsK_in (n : Int) (ps : List (Int × Int)) : ∀ k, 0 ≤ partsK n ps k ∧ partsK n ps k ≤ 16
  | 0 => by constructor <;> simp [partsK]
  | k + 1 => by
    have := partsK_in n ps k
    unfold partsK
    split
    · unfold partK; split
      · omega
      · split <;> omega
    · exact this
theorem stepK_in (n : Int) (ps : List (Int × Int)) (div : Int) : 0 ≤ stepK n ps div ∧ stepK n ps div ≤ 16 := by
  have := partsK_in n ps ps.length
  unfold stepK
  split
  · omega
  · split
    · split <;> omega
    · exact this
theorem divK_in2 (C : Int) (E : List (Int × Int)) : 0 ≤ divK C E ∧ divK C E ≤ 16 := by unfold divK; repeat (first | split | omega)
theorem tellK_in (n c div : Int) (ps R : List (Int × Int)) : 0 ≤ tellK n c div ps R ∧ tellK n c div ps R ≤ 16 := by
  have h1 := stepK_in n ps div
  have h2 := divK_in2 (upI c div) (divT div R)
  unfold tellK
  split
  · exact h1
  · split
    · omega
    · split
      · omega
      · exact h2
theorem LinesIs.code {ls ss at' L} {x : Int} (h : LinesIs ls ss x at' L) : (0 ≤ x ∧ x ≤ 16) ∧ (0 ≤ at' → x ≠ 0) := by
  cases h with
  | long _ => exact ⟨by omega, fun _ => by omega⟩
  | prem _ => exact ⟨by omega, fun _ => by omega⟩
  | step _ _ _ _ _ _ g => exact ⟨tellK_in _ _ _ _ _, fun _ => g⟩
  | ok _ _ _ _ => exact ⟨by omega, fun h => by omega⟩
theorem refX_code {ls ss at' L} {x : Int} (h : LinesIs ls ss x at' L) : (0 ≤ refX x L ∧ refX x L ≤ 16) ∧ (0 ≤ at' → refX x L ≠ 0) := by
  have hc := h.code
  by_cases hx : x = 0
  · have ha := (h.zero hx).1
    refine ⟨?_, fun h => by omega⟩
    unfold refX; rw [if_pos hx]; split <;> omega
  · have e : refX x L = x := if_neg hx
    rw [e]; exact hc
theorem ErrIs.below {B : Nat} {x at' : Int} {er : Value} {w w' : World} (h : ErrIs B x at' er w) (hb : Below w.heap.size w w') : ErrIs B x at' er w' :=
  ⟨h.1, fun ha => by
    obtain ⟨g, e1, e2, e3, e4, e5⟩ := h.2 ha
    exact ⟨g, e1, e2, Nat.lt_of_lt_of_le e3 hb.size, (hb.cell (p := ⟨g, 0, none⟩) e3).trans e4, (hb.cell (p := ⟨g, 1, none⟩) e3).trans e5⟩⟩

def RRefEnd (B : Nat) (x at' : Int) (w : World) (e : Ending) (w' : World) : Prop := e = .returned (.tuple #[.int .i64 x, .int .i64 at']) ∧ Below B w w'
set_option maxRecDepth 100000 in
set_option maxHeartbeats 2000000 in
theorem rrefutes_any (a : Option Addr) (n cap : Nat) (ls : List (Int × List (Int × Int))) (sa : Option Addr) (sn scap : Nat) (ss : List (List (Int × Int) × Int)) (w : World) (h : Given w.heap.size w a n ls sa sn ss) (x at' : Int) (L : List (Int × List (Int × Int))) (hL : LinesIs ls ss x at' L) :
    Calls Tryd.prog 13 #[.slice a n cap, .slice sa sn scap] w (RRefEnd w.heap.size (refX x L) at' w) := by
  have HLN := Lib.hid (rlines_any rstep_said a n cap ls sa sn scap ss w h x at' L hL)
  by_cases hx : x = 0
  · obtain ⟨rfl, _, _, _, hLm⟩ := hL.zero hx
    subst hx
    have HX0 : Hid (hasR L = true → refX 0 L = 0) := fun h => by unfold refX; rw [if_pos rfl, if_pos h]
    have HX8 : Hid (hasR L = false → refX 0 L = 8) := fun h => by unfold refX; rw [if_pos rfl, if_neg (by rw [h]; decide)]
    generalize refX 0 L = y at HX0 HX8
    clear h hL
    go_enter Tryd.func13, Tryd.ntmps13
    go_wp2_with fail
    refine HLN.out.mono ?_
    rintro e w1 ⟨v, xs, rfl, hrow, hfs, hb1⟩
    obtain ⟨la, lcap, rfl, hll⟩ := hrow.llies
    rw [hfs] at hll
    have hxl : L.length = xs.length := by rw [← hfs, lforms_len]
    have HB := Lib.hid hb1
    have HLL := Lib.hid hll
    have hxm : xs.length ≤ 8192 := by omega
    have HXL := Lib.hid hxl
    clear hrow hfs hb1 hll HLN hxl
    go_wp2_with fail
    go_loopw [9] (fun i wr => ∃ (k : Nat), k ≤ xs.length ∧ i = .int .i64 k ∧ Hid (∀ j, j < k → ¬ ((L.getD j (0, [])).2.length = 0 ∧ 0 < (L.getD j (0, [])).1)) ∧ Hid (Below w1.heap.size w1 wr)) (fun i _ => xs.length - (intOf i).toNat)
    case atStart => exact ⟨0, Nat.zero_le _, rfl, fun j hj => absurd hj (Nat.not_lt_zero _), Below.refl _ _⟩
    case round =>
      obtain ⟨k, hk, rfl, hno, hb⟩ := hrel
      by_cases hlt : k < xs.length
      · obtain ⟨b, off, ta, tcap, rfl, hblt, c0, c1, _⟩ := (HLL.out.below hb.out) k (by rw [HXL.out]; exact hlt)
        have hyes : (L.getD k (0, [])).2.length = 0 ∧ 0 < (L.getD k (0, [])).1 → y = 0 := fun h => HX0.out (hasR_at (by rw [HXL.out]; exact hlt) h)
        have hnot : ¬ ((L.getD k (0, [])).2.length = 0 ∧ 0 < (L.getD k (0, [])).1) → Hid (∀ j, j < k + 1 → ¬ ((L.getD j (0, [])).2.length = 0 ∧ 0 < (L.getD j (0, [])).1)) := fun h j hj => by
          by_cases e : j = k
          · subst e; exact h
          · exact hno.out j (by omega)
        generalize (L.getD k (0, [])).1 = C at c0 hyes hnot
        generalize (L.getD k (0, [])).2.length = m at c1 hyes hnot
        by_cases hm : m = 0
        · subst hm
          by_cases hC : 0 < C
          · obtain rfl := hyes ⟨rfl, hC⟩
            clear hyes hnot
            go_wp2_with fail
            go_ret2
            exact ⟨rfl, HB.out.trans (hb.out.mono HB.out.size)⟩
          · have HN := hnot (fun h => hC h.2)
            clear hyes hnot
            go_wp2_with fail
            refine ⟨⟨k + 1, by omega, by go_num, HN, hb⟩, by simp [intOf]; omega⟩
        · have HN := hnot (fun h => hm h.1)
          have hm' : ¬ ((m : Int) = 0) := by omega
          clear hyes hnot
          go_wp2_with fail
          refine ⟨⟨k + 1, by omega, by go_num, HN, hb⟩, by simp [intOf]; omega⟩
      · obtain rfl : k = xs.length := by omega
        obtain rfl := HX8.out (hasR_none (fun i hi => hno.out i (by rw [HXL.out] at hi; exact hi)))
        go_wp2_with fail
        go_ret2
        exact ⟨rfl, HB.out.trans (hb.out.mono HB.out.size)⟩
  · have HX : Hid (refX x L = x) := if_neg hx
    generalize refX x L = y at HX
    clear h hL
    go_enter Tryd.func13, Tryd.ntmps13
    go_wp2_with fail
    refine HLN.out.mono ?_
    rintro e w1 ⟨v, xs, rfl, hrow, hfs, hb1⟩
    have HB := Lib.hid hb1
    clear hb1 hrow hfs HLN
    go_wp2_with fail
    go_ret2
    exact ⟨by rw [HX.out]; rfl, HB.out⟩
end Go.Proofs.YtmjhjacbhflcpaaDoor

namespace Go.Proofs.YtmjhjacbhflcpaaDoor
open Go.RowKit Go.Maps

theorem LinesIs.small {ls ss x at' L} (h : LinesIs ls ss x at' L) : L.length ≤ 8192 ∧ ∀ i, i < L.length → (L.getD i (0, [])).2.length ≤ 9223372036854775807 := by
  cases h with
  | long _ => exact ⟨by decide, fun i hi => absurd hi (Nat.not_lt_zero _)⟩
  | prem _ => exact ⟨by decide, fun i hi => absurd hi (Nat.not_lt_zero _)⟩
  | step _ => exact ⟨by decide, fun i hi => absurd hi (Nat.not_lt_zero _)⟩
  | ok g1 g2 g3 g4 => exact ⟨by rw [lnL_len]; omega, fun i hi => by have := (snd_iff.1 (lnL_ok g3 _ g4 i hi)).2.1; omega⟩

set_option maxRecDepth 100000 in
set_option maxHeartbeats 2000000 in
theorem cutLines_any (hup : UpSaid4) (a : Option Addr) (n cap : Nat) (ls : List (Int × List (Int × Int))) (sa : Option Addr) (sn scap : Nat) (ss : List (List (Int × Int) × Int)) (w : World) (h : Given w.heap.size w a n ls sa sn ss) (hg : Laid0 w) :
    Calls Tryd.prog 3 #[.slice a n cap, .slice sa sn scap] w fun e w' => e = .returned (.bool true) ∧ Below w.heap.size w w' := by
  obtain ⟨x, at', L, hL⟩ := lines_is ls ss
  have HUP := Lib.hid (fun W => hup W)
  have HLI := Lib.hid (fun W (hb : Below w.heap.size w W) => light_any a n cap ls sa sn scap ss W ((h.below hb).mono hb.size))
  have HLN := Lib.hid (fun W (hb : Below w.heap.size w W) => lines_any a n cap ls sa sn scap ss W ((h.below hb).mono hb.size) x at' L hL)
  have HRL := Lib.hid (fun W (hb : Below w.heap.size w W) => rlines_any rstep_said a n cap ls sa sn scap ss W ((h.below hb).mono hb.size) x at' L hL)
  have HLD := Lib.hid (fun W (hb : Below w.heap.size w W) => hg.below hb hg.pos)
  have HIS := Lib.hid hL
  clear hup h hL hg
  go_enter Tryd.func3, Tryd.ntmps3
  go_wp2_with fail
  refine (HUP.out _).mono ?_
  rintro e w1 ⟨rfl, hb1⟩
  have B1 := Lib.hid hb1
  clear hb1
  go_wp2_with fail
  refine (HLI.out _ B1.out).mono ?_
  rintro e w2 ⟨b, rfl, rfl⟩
  clear HUP HLI
  cases b with
  | false =>
    go_wp2_with fail
    go_ret
    exact ⟨rfl, B1.out⟩
  | true =>
    go_wp2_with fail
    refine (HLN.out _ B1.out).mono ?_
    rintro e w3 ⟨v3, er3, ys, rfl, hrow3, hfs3, her3, hb3⟩
    have B3 := Lib.hid (B1.out.trans (hb3.mono B1.out.size))
    have RY := Lib.hid hrow3
    have FY := Lib.hid hfs3
    have EY := Lib.hid her3
    clear hrow3 hfs3 her3 hb3 HLN
    go_wp2_with fail
    refine (HRL.out _ B3.out).mono ?_
    rintro e w4 ⟨v4, zs, rfl, hrow4, hfs4, hb4⟩
    have B4 := Lib.hid (B3.out.trans (hb4.mono B3.out.size))
    obtain ⟨ya, ycap, rfl, hyl⟩ := (RY.out.below hb4).llies
    obtain ⟨za, zcap, rfl, hzl⟩ := hrow4.llies
    rw [FY.out] at hyl
    rw [hfs4] at hzl
    have hyn : L.length = ys.length := by rw [← FY.out, lforms_len]
    have hzn : L.length = zs.length := by rw [← hfs4, lforms_len]
    obtain ⟨hL8, hLs⟩ := HIS.out.small
    have HSM := Lib.hid (fun W (hb : Below w4.heap.size w4 W) => rsames_any ya ys.length ycap L za zs.length zcap L W hyn hzn (by omega) (by omega) ((hyl.below hb).mono hb.size) (fun i hi => hLs i (by omega)) ((hzl.below hb).mono hb.size) (fun i hi => hLs i (by omega)))
    rw [decide_eq_true rfl] at HSM
    have EZ := Lib.hid (EY.out.below hb4)
    have HTD := Lib.hid (fun W (hb : Below w4.heap.size w4 W) => told_any (EZ.out.below hb) HIS.out.code.1 HIS.out.code.2 (HLD.out W (B4.out.trans (hb.mono B4.out.size))))
    clear hyl hzl hyn hzn hrow4 hfs4 hb4 HIS HRL EY EZ RY FY B3 HLD hL8 hLs
    go_wp2_with fail
    refine (HSM.out _ (Below.refl _ _)).mono ?_
    rintro e w5 ⟨rfl, hb5⟩
    have B5 := Lib.hid hb5
    clear hb5 HSM
    go_wp2_with fail
    refine (HTD.out _ B5.out).mono ?_
    rintro e w6 ⟨rfl, hb6⟩
    have B6 := Lib.hid (B4.out.trans ((B5.out.trans (hb6.mono B5.out.size)).mono B4.out.size))
    clear hb6
    go_wp2_with fail
    go_ret
    exact ⟨rfl, B6.out⟩
end Go.Proofs.YtmjhjacbhflcpaaDoor
