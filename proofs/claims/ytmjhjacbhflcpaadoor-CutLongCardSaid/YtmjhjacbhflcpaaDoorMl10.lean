/- errors.As, errors.Is at a *api.Spot; whether an error is a Spot; Told. Whether an error is a Spot with its place and code; Told. CutLong: what is made. CutLong, the first kind. -/
import Derived.Test.YtmjhjacbhflcpaaDoorMl02
import Derived.Test.YtmjhjacbhflcpaaDoorMl07
import Derived.Test.YtmjhjacbhflcpaaDoorMl09
set_option linter.unusedVariables false
set_option linter.unusedSimpArgs false
namespace Go.Proofs.YtmjhjacbhflcpaaDoor
open Go.RowKit Go.Extern.Stop Go.Stop Go.Extern

set_option maxHeartbeats 4000000 in
theorem as_hit (e t : Addr) (old : Value) (w : World) (hg : w.cell? ⟨0, 0, none⟩ = some (.iface 93 (.agg #[.pointer (some ⟨1, 27, none⟩)]))) (ht0 : w.cell? t = some old) (hf0 : w.frozen? t = false) :
    Calls Tryd.prog 22 #[.iface 51 (.pointer (some e)), .iface 63 (.pointer (some t))] w fun ev w' => ev = .returned (.bool true) ∧ w' = ((((w.alloc (.cells #[.pointer (some t)] 63)).alloc (.cells #[.pointer (some ⟨1, 63, none⟩), .pointer (some ⟨w.heap.size, 0, none⟩), .int .u64 150] 80)).alloc (.cells #[.pointer (some ⟨1, 63, none⟩), .pointer (some ⟨w.heap.size, 0, none⟩), .int .u64 150] 80)).alloc (.cells #[.pointer (some e)] 51)).setCell t (.pointer (some e)) := by
  have h6 := @run_callFunc_extern Tryd.prog 36 _ (fun args => ReflectliteValue.unpack (args.getD 0 (.tuple #[]))) Tryd.func36 (by kernel_rfl) (by kernel_rfl) (by kernel_rfl) (by kernel_rfl)
  have h7 := @run_callFunc_extern Tryd.prog 37 _ (ReflectliteValue.methodAny (ReflectliteValue.valueError "reflectlite.Value.Type" 0) (fun t _ _ _ => ReflectliteType.toType t)) Tryd.func37 (by kernel_rfl) (by kernel_rfl) (by kernel_rfl) (by kernel_rfl)
  have h8 := @run_callFunc_extern Tryd.prog 38 _ (ReflectliteValue.method (ReflectliteValue.valueError "reflectlite.Value.IsNil" 0) ReflectliteValue.isNil) Tryd.func38 (by kernel_rfl) (by kernel_rfl) (by kernel_rfl) (by kernel_rfl)
  have h27 := @run_callFunc_extern Tryd.prog 80 _ (ReflectliteType.abiMethod fun t => do pure (.int .u8 (← Rtype.kind t))) Tryd.func80 (by kernel_rfl) (by kernel_rfl) (by kernel_rfl) (by kernel_rfl)
  have h37 := @run_callFunc_extern Tryd.prog 92 _ (ReflectliteType.method ReflectliteType.elem) Tryd.func92 (by kernel_rfl) (by kernel_rfl) (by kernel_rfl) (by kernel_rfl)
  have h38 := @run_callFunc_extern Tryd.prog 93 _ (ReflectliteType.relation "Implements" ReflectliteType.implements_) Tryd.func93 (by kernel_rfl) (by kernel_rfl) (by kernel_rfl) (by kernel_rfl)
  have h10 := @run_callFunc_extern Tryd.prog 40 _ ReflectliteType.typeOf Tryd.func40 (by kernel_rfl) (by kernel_rfl) (by kernel_rfl) (by kernel_rfl)
  have h35 := @run_callFunc_extern Tryd.prog 90 _ (ReflectliteType.relation "AssignableTo" ReflectliteType.assignableTo) Tryd.func90 (by kernel_rfl) (by kernel_rfl) (by kernel_rfl) (by kernel_rfl)
  have h11 := @run_callFunc_extern Tryd.prog 44 _ (ReflectliteValue.method (ReflectliteValue.valueError "reflectlite.Value.Elem" 0) ReflectliteValue.elem) Tryd.func44 (by kernel_rfl) (by kernel_rfl) (by kernel_rfl) (by kernel_rfl)
  have h12 := @run_callFunc_extern Tryd.prog 45 _ ReflectliteValue.set Tryd.func45 (by kernel_rfl) (by kernel_rfl) (by kernel_rfl) (by kernel_rfl)
  have tO := Tryd.typeOfP
  have mA := Tryd.methodAssignableTo
  have a25 := Tryd.assignableP
  have v25 := Tryd.valueOfP
  have f6 := Tryd.valueOfPP
  have f7 := Tryd.typePP
  have mK := Tryd.methodKind
  have mE := Tryd.methodElem
  have mI := Tryd.methodImplements
  have k27 := Tryd.kindPP
  have k25 := Tryd.kindP
  have e27 := Tryd.elemPP
  have i25 := Tryd.implementsP
  have n8 := Tryd.isNilPP ⟨w.heap.size, 0, none⟩ t ((w.alloc (.cells #[.pointer (some t)] 63)).alloc (.cells #[.pointer (some ⟨1, 63, none⟩), .pointer (some ⟨w.heap.size, 0, none⟩), .int .u64 150] 80)) (by simp)
  have hlt : 0 < w.heap.size := by
    rcases Nat.eq_zero_or_pos w.heap.size with h0 | h
    · simp [World.cell?, h0] at hg
    · exact h
  have hg2 : ((w.alloc (.cells #[.pointer (some t)] 63)).alloc (.cells #[.pointer (some ⟨1, 63, none⟩), .pointer (some ⟨w.heap.size, 0, none⟩), .int .u64 150] 80)).cell? ⟨0, 0, none⟩ = some (.iface 93 (.agg #[.pointer (some ⟨1, 27, none⟩)])) := by
    rw [World.cell?_alloc_lt _ _ ⟨0, 0, none⟩ (by simp), World.cell?_alloc_lt _ _ ⟨0, 0, none⟩ hlt]; exact hg
  have htl : t.block < w.heap.size := by
    rcases Nat.lt_or_ge t.block w.heap.size with h | h
    · exact h
    · simp [World.cell?, Array.getElem?_eq_none h] at ht0
  have el := Tryd.elemVPP ⟨w.heap.size, 0, none⟩ t (((w.alloc (.cells #[.pointer (some t)] 63)).alloc (.cells #[.pointer (some ⟨1, 63, none⟩), .pointer (some ⟨w.heap.size, 0, none⟩), .int .u64 150] 80)).alloc (.cells #[.pointer (some ⟨1, 63, none⟩), .pointer (some ⟨w.heap.size, 0, none⟩), .int .u64 150] 80)) (by rw [World.cell?_alloc_lt _ _ ⟨w.heap.size, 0, none⟩ (by simp; omega)]; simp)
  have st := Tryd.setP t ⟨w.heap.size + 1 + 1 + 1, 0, none⟩ e old ((((w.alloc (.cells #[.pointer (some t)] 63)).alloc (.cells #[.pointer (some ⟨1, 63, none⟩), .pointer (some ⟨w.heap.size, 0, none⟩), .int .u64 150] 80)).alloc (.cells #[.pointer (some ⟨1, 63, none⟩), .pointer (some ⟨w.heap.size, 0, none⟩), .int .u64 150] 80)).alloc (.cells #[.pointer (some e)] 51))
    (by rw [World.cell?_alloc_at _ _ _ _ (by simp)]; rfl)
    (by rw [World.cell?_alloc_lt _ _ t (by simp; omega), World.cell?_alloc_lt _ _ t (by simp; omega), World.cell?_alloc_lt _ _ t (by simp; omega), World.cell?_alloc_lt _ _ t htl]; exact ht0)
    (by rw [World.frozen?_alloc_old _ _ t (by simp; omega), World.frozen?_alloc_old _ _ t (by simp; omega), World.frozen?_alloc_old _ _ t (by simp; omega), World.frozen?_alloc_old _ _ t (Nat.ne_of_lt htl)]; exact hf0)
  go_enter Tryd.func22, Tryd.ntmps22
  go_wp2
  refine wp_loop_rounds 1 ?_
  rw [rounds_succ]
  go_wp2
  go_ret
  exact ⟨rfl, rfl⟩
/-- In plain words: the place gets the pointer; what lies below it is as it was. -/
theorem as_spot (e : Addr) (b : Nat) (old : Value) (w : World) (hg : w.cell? ⟨0, 0, none⟩ = some (.iface 93 (.agg #[.pointer (some ⟨1, 27, none⟩)]))) (ht0 : w.cell? ⟨b, 0, none⟩ = some old) (hf0 : w.frozen? ⟨b, 0, none⟩ = false) (hb : b < w.heap.size) :
    Calls Tryd.prog 22 #[.iface 51 (.pointer (some e)), .iface 63 (.pointer (some ⟨b, 0, none⟩))] w fun ev w' => ev = .returned (.bool true) ∧ w'.cell? ⟨b, 0, none⟩ = some (.pointer (some e)) ∧ Below b w w' ∧ b < w'.heap.size := by
  refine (as_hit e ⟨b, 0, none⟩ old w hg ht0 hf0).mono ?_
  rintro ev w' ⟨rfl, rfl⟩
  have hA : Below w.heap.size w ((((w.alloc (.cells #[.pointer (some ⟨b, 0, none⟩)] 63)).alloc (.cells #[.pointer (some ⟨1, 63, none⟩), .pointer (some ⟨w.heap.size, 0, none⟩), .int .u64 150] 80)).alloc (.cells #[.pointer (some ⟨1, 63, none⟩), .pointer (some ⟨w.heap.size, 0, none⟩), .int .u64 150] 80)).alloc (.cells #[.pointer (some e)] 51)) := by
    refine Below.alloc (Below.alloc (Below.alloc (Below.alloc (Below.refl _ _) ?_ _) ?_ _) ?_ _) ?_ _ <;> simp <;> omega
  refine ⟨rfl, World.cell?_setCell_same _ _ _ ((hA.cell (p := ⟨b, 0, none⟩) hb).trans ht0), (hA.mono (Nat.le_of_lt hb)).setCell (p := ⟨b, 0, none⟩) (Nat.le_refl _) _, ?_⟩
  rw [World.size_setCell]
  exact Nat.lt_of_lt_of_le hb hA.size

theorem Tryd.noIsP (v : Value) (xT : TypeId) (w : World) : (Instr.typeAssert (.iface 51 v) xT 105 true).run Tryd.prog w = .ok (.tuple #[.nilIface, .bool false]) w := run_typeAssert_lacksB Tryd.underlying105 (by kernel_rfl) (by kernel_rfl) v xT w
theorem Tryd.hasUnwrapP (v : Value) (xT : TypeId) (w : World) : (Instr.typeAssert (.iface 51 v) xT 100 true).run Tryd.prog w = .ok (.tuple #[.iface 51 v, .bool true]) w := run_typeAssert_hasB Tryd.underlying100 (by kernel_rfl) v xT w
theorem Tryd.methodUnwrapP (v : Value) (w : World) : (Go.method 260 51 v "Unwrap").run Tryd.prog w = .ok (85, v) w := by kernel_rfl
/-- errors.Is of a Spot with that code. -/
theorem is_spotcode (g : Nat) (k : Int) (w : World) (h1 : w.cell? ⟨g, 1, none⟩ = some (.iface 42 (.int .i64 k))) :
    Calls Tryd.prog 23 #[.iface 51 (.pointer (some ⟨g, 0, none⟩)), .iface 42 (.int .i64 k)] w fun e w' => e = .returned (.bool true) ∧ w' = w := by
  have h8 := @run_callFunc_extern Tryd.prog 40 _ Extern.ReflectliteType.typeOf Tryd.func40 (by kernel_rfl) (by kernel_rfl) (by kernel_rfl) (by kernel_rfl)
  have h32 := @run_callFunc_extern Tryd.prog 91 _ (Extern.ReflectliteType.method fun t => do Rtype.noPackHeld "Comparable" t; pure (.bool (← typeInfo t).comparable)) Tryd.func91 (by kernel_rfl) (by kernel_rfl) (by kernel_rfl) (by kernel_rfl)
  have hC : ∀ W, (callFunc 91 #[.agg #[.pointer (some ⟨1, 42, none⟩)]]).run Tryd.prog W = .ok (.value (.bool true)) W := fun W => by rw [h32, Tryd.comparableC]; rfl
  clear h32
  have tT := Tryd.typeOfC
  have mR := Tryd.methodComparable
  have nW := Tryd.noIsP
  have uW := Tryd.hasUnwrapP
  have mU := Tryd.methodUnwrapP
  have heq := Tryd.eqCode k k w
  have hkk : (k == k) = true := by simp
  have hty := run_eql_iface_types (P := Tryd.prog) 51 42 (.pointer (some ⟨g, 0, none⟩)) (.int .i64 k) Tryd.underlying27 (by decide) w
  go_enter Tryd.func23, Tryd.ntmps23
  go_wp2
  refine wp_loop_rounds 2 ?_
  rw [rounds_succ]
  go_wp2
  rw [rounds_succ]
  go_wp2
  go_ret
  exact ⟨rfl, rfl⟩
end Go.Proofs.YtmjhjacbhflcpaaDoor

namespace Go.Proofs.YtmjhjacbhflcpaaDoor
open Go.RowKit Go.Extern.Stop Go.Stop Go.Extern

/-- The listed variable's cell. -/
def Laid0 (w : World) : Prop := w.cell? ⟨0, 0, none⟩ = some (.iface 93 (.agg #[.pointer (some ⟨1, 27, none⟩)]))
theorem Laid0.pos {w : World} (h : Laid0 w) : 0 < w.heap.size := by
  rcases Nat.eq_zero_or_pos w.heap.size with h0 | h1
  · unfold Laid0 at h; simp [World.cell?, h0] at h
  · exact h1
theorem Laid0.below {w w' : World} {B : Nat} (h : Laid0 w) (hb : Below B w w') (hB : 0 < B) : Laid0 w' := (hb.cell (p := ⟨0, 0, none⟩) hB).trans h
theorem Tryd.isCompP : (Tryd.prog.info? 51).map (·.comparable) = some true := by kernel_rfl
theorem Tryd.isSizeS : (Tryd.prog.info? 53).map (·.size) = some 2 := by kernel_rfl
theorem Tryd.neSame (g : Addr) (W : World) : (binOp .neq 27 (.iface 51 (.pointer (some g))) (.iface 51 (.pointer (some g)))).run Tryd.prog W = .ok (.bool false) W := by
  obtain ⟨i, hi, hcmp⟩ := Option.map_eq_some_iff.1 Tryd.isCompP
  obtain ⟨j, hj, hjs⟩ := Option.map_eq_some_iff.1 Tryd.isSizeS
  simp only [binOp]
  simp [Op.equal, Op.maxDepth, run_equalIn_iface_ptr_same (P := Tryd.prog) W 9998 g Tryd.underlying27 Tryd.underlying51 hi hcmp hj]

set_option maxHeartbeats 1000000 in
theorem is_any (g : Nat) (at' k : Int) (w : World) (hg : Laid0 w) (hgb : g < w.heap.size) (h0 : w.cell? ⟨g, 0, none⟩ = some (.int .i64 at')) (h1 : w.cell? ⟨g, 1, none⟩ = some (.iface 42 (.int .i64 k))) :
    Calls Tryd.prog 14 #[.iface 51 (.pointer (some ⟨g, 0, none⟩)), .int .i64 at', .int .i64 k] w fun e w' => e = .returned (.bool true) ∧ Below w.heap.size w w' := by
  have hb0 : Below w.heap.size w (w.alloc (.cells #[.pointer none] 51)) := (Below.refl _ w).alloc (Nat.le_refl _) _
  have hn := heap_alloc_new w (.cells #[.pointer none] 51)
  have HAS := Lib.hid (as_spot ⟨g, 0, none⟩ w.heap.size (.pointer none) (w.alloc (.cells #[.pointer none] 51)) (hg.below hb0 hg.pos) ((cell_of_row _ _ _ _ _ _ hn).trans rfl) (frozen_of_row _ _ _ _ _ hn) (lt_of_some hn))
  have HB0 := Lib.hid hb0
  have HIS := Lib.hid (fun W h => is_spotcode g k W h)
  have ne := Tryd.neSame ⟨g, 0, none⟩
  have e1 := fun W => Tryd.eqCode k k W
  have hkk : (k == k) = true := by simp
  have haa : (at' == at') = true := by simp
  clear hg hn hb0
  go_enter Tryd.func14, Tryd.ntmps14
  go_wp2_with fail
  refine HAS.out.mono ?_
  rintro e w1 ⟨rfl, hc1, hb1, hz1⟩
  have q0 : w1.cell? ⟨g, 0, none⟩ = some (.int .i64 at') := (hb1.cell (p := ⟨g, 0, none⟩) hgb).trans ((HB0.out.cell (p := ⟨g, 0, none⟩) hgb).trans h0)
  have q1 : w1.cell? ⟨g, 1, none⟩ = some (.iface 42 (.int .i64 k)) := (hb1.cell (p := ⟨g, 1, none⟩) hgb).trans ((HB0.out.cell (p := ⟨g, 1, none⟩) hgb).trans h1)
  have HB1 : Hid (Below w.heap.size w w1) := HB0.out.trans hb1
  clear hb1 h0 h1 HAS
  go_wp2_with fail
  refine (HIS.out _ q1).mono ?_
  rintro e w2 ⟨rfl, rfl⟩
  go_wp2_with fail
  go_ret
  exact ⟨rfl, HB1.out⟩

/-- Told: the error is the one of this number, at this place. -/
theorem told_any {B : Nat} {x at' : Int} {er : Value} {w : World} (h : ErrIs B x at' er w) (hx : 0 ≤ x ∧ x ≤ 16) (hp : 0 ≤ at' → x ≠ 0) (hg : Laid0 w) :
    Calls Tryd.prog 11 #[er, .int .i64 x, .int .i64 at'] w fun e w' => e = .returned (.bool true) ∧ Below w.heap.size w w' := by
  have hxx : (x == x) = true := by simp
  by_cases ha : at' < 0
  · have HC : Hid (∀ W, Calls Tryd.prog 21 #[codeV x] W fun e w' => e = .returned (.int .i64 x) ∧ W = w') := fun W => by
      by_cases h0 : x = 0
      · rw [h0, codeV_zero]; exact code_nil W
      · rw [codeV_ne h0]; exact code_k x W (by omega) (by omega)
    rw [h.1 ha]
    clear h hg
    go_enter Tryd.func11, Tryd.ntmps11
    go_wp2_with fail
    refine (HC.out _).mono ?_
    rintro e w1 ⟨rfl, rfl⟩
    go_wp2_with fail
    go_ret
    exact ⟨rfl, Below.refl _ _⟩
  · obtain ⟨g, e1, _, e3, e4, e5⟩ := h.2 (by omega)
    rw [codeV_ne (hp (by omega))] at e5
    have HI := Lib.hid (is_any g at' x w hg e3 e4 e5)
    rw [e1]
    clear h hg e1 e4 e5
    go_enter Tryd.func11, Tryd.ntmps11
    go_wp2_with fail
    refine HI.out.mono ?_
    rintro e w1 ⟨rfl, hb1⟩
    go_wp2_with fail
    go_ret
    exact ⟨rfl, hb1⟩
end Go.Proofs.YtmjhjacbhflcpaaDoor

namespace Go.Proofs.YtmjhjacbhflcpaaDoor
open Go.RowKit Go.Maps

theorem made_at2 (x y : Value) (n i : Nat) (h : i < n) : (madeCells #[x, y] (n * 2))[i * 2]? = some x ∧ (madeCells #[x, y] (n * 2))[i * 2 + 1]? = some y := by
  have h1 : i * 2 < n * 2 := by omega
  have h2 : i * 2 + 1 < n * 2 := by omega
  refine ⟨?_, ?_⟩
  · simp [madeCells, h1]
  · have : (i * 2 + 1) % 2 = 1 := by omega
    simp [madeCells, h2, this]
theorem run_make_lins2 (W : World) (z : Int) (n : Nat) (hz : z = n) (hn : n ≤ 8192) : (Instr.makeSlice 22 (.int .i64 z) (.int .i64 z)).run Tryd.prog W = .ok (.slice (some ⟨W.heap.size, 0, none⟩) n n) (W.alloc (.cells (madeCells #[.int .i64 0, .slice none 0 0] (n * 2)) 49)) := by
  subst hz
  obtain ⟨i0, hi, hz0, hz1, hz2⟩ := info_parts Tryd.infoLin
  have := run_make (P := Tryd.prog) W 22 49 i0 _ Tryd.underlying22 hi hz0 .i64 .i64 n n (by omega) (Int.le_refl _) (by rw [hz2]; omega) (by omega)
  rw [hz1] at this
  simp only [Int.toNat_natCast] at this
  exact this
theorem Tryd.infoPart : (Tryd.prog.info? 41).map (fun i => (i.zero, i.size, i.bytes)) = some (some (.agg #[.int .i64 0, .int .i64 0]), 2, 16) := by kernel_rfl
theorem Tryd.infoStep : (Tryd.prog.info? 39).map (fun i => (i.zero, i.size, i.bytes)) = some (some (.agg #[.slice none 0 0, .int .i64 0]), 2, 32) := by kernel_rfl
theorem run_make_parts (W : World) (z : Int) (n : Nat) (hz : z = n) (hn : n ≤ 8192) : (Instr.makeSlice 37 (.int .i64 z) (.int .i64 z)).run Tryd.prog W = .ok (.slice (some ⟨W.heap.size, 0, none⟩) n n) (W.alloc (.cells (madeCells #[.int .i64 0, .int .i64 0] (n * 2)) 41)) := by
  subst hz
  obtain ⟨i0, hi, hz0, hz1, hz2⟩ := info_parts Tryd.infoPart
  have := run_make (P := Tryd.prog) W 37 41 i0 _ Tryd.underlying37 hi hz0 .i64 .i64 n n (by omega) (Int.le_refl _) (by rw [hz2]; omega) (by omega)
  rw [hz1] at this
  simp only [Int.toNat_natCast] at this
  exact this
def zls (n : Nat) : List (Int × List (Int × Int)) := List.replicate n (0, [])
theorem zls_len (n : Nat) : (zls n).length = n := List.length_replicate
theorem zls_get (n i : Nat) (h : i < n) : (zls n).getD i (0, []) = (0, []) := by simp [zls, List.getD_eq_getElem?_getD, h]
theorem zls_lies (W : World) (n : Nat) (t : TypeId) (W' : World) (hb : Below (W.heap.size + 1) (W.alloc (.cells (madeCells #[.int .i64 0, .slice none 0 0] (n * 2)) t)) W') : LLies W'.heap.size W' (some ⟨W.heap.size, 0, none⟩) (zls n) := fun i hi => by
  rw [zls_len] at hi
  rw [zls_get n i hi]
  have hn := heap_alloc_new W (.cells (madeCells #[.int .i64 0, .slice none 0 0] (n * 2)) t)
  obtain ⟨g1, g2⟩ := made_at2 (.int .i64 0) (.slice none 0 0) n i hi
  have hz := hb.size
  have hs : (W.alloc (.cells (madeCells #[.int .i64 0, .slice none 0 0] (n * 2)) t)).heap.size = W.heap.size + 1 := by simp
  refine ⟨W.heap.size, 0, none, 0, rfl, by omega, ?_, ?_, fun j hj => absurd hj (Nat.not_lt_zero _)⟩
  · rw [hb.cell (p := ⟨W.heap.size, _, none⟩) (Nat.lt_succ_self _), cell_of_row _ _ _ _ _ _ hn, Nat.zero_add]; exact g1
  · rw [hb.cell (p := ⟨W.heap.size, _, none⟩) (Nat.lt_succ_self _), cell_of_row _ _ _ _ _ _ hn, Nat.zero_add]; exact g2
theorem zls_ok (n : Nat) : lsOk (zls n) := fun i hi => by
  rw [zls_len] at hi
  rw [zls_get n i hi]; decide
theorem lines_k0 (n : Nat) : (4096 < n → LinesIs (zls n) [] 2 (-1) []) ∧ (n ≤ 4096 → LinesIs (zls n) [] 0 (-1) (zls n)) :=
  ⟨fun h => .long (.inl (by rw [zls_len]; exact h)), fun h => .ok (by rw [zls_len]; exact h) (by decide) (zls_ok n) (fun j hj => absurd hj (Nat.not_lt_zero _))⟩
theorem k0_given (W : World) (n : Nat) (hn : n ≤ 8192) (t : TypeId) : Given (W.alloc (.cells (madeCells #[.int .i64 0, .slice none 0 0] (n * 2)) t)).heap.size (W.alloc (.cells (madeCells #[.int .i64 0, .slice none 0 0] (n * 2)) t)) (some ⟨W.heap.size, 0, none⟩) n (zls n) none 0 [] :=
  ⟨zls_len n, zls_lies W n t _ (Below.refl _ _), fun i hi => by rw [zls_get n i hi]; decide, rfl, fun i hi => absurd hi (Nat.not_lt_zero _), by omega, by omega⟩

/-- Steps without parts, in an own row. -/
def sflat (k : Nat) : List Value := (List.replicate k [Value.slice none 0 0, Value.int .i64 1]).flatten
theorem sflat_succ (k : Nat) : sflat (k + 1) = sflat k ++ [.slice none 0 0, .int .i64 1] := by
  unfold sflat
  rw [List.replicate_succ', List.flatten_append]
  simp
theorem sflat_len : ∀ k, (sflat k).length = k * 2
  | 0 => rfl
  | k + 1 => by rw [sflat_succ, List.length_append, sflat_len k]; simp; omega
theorem sflat_get : ∀ (k i : Nat), i < k → (sflat k)[i * 2]? = some (.slice none 0 0) ∧ (sflat k)[i * 2 + 1]? = some (.int .i64 1)
  | k + 1, i, h => by
    rw [sflat_succ]
    by_cases e : i = k
    · subst e
      have := sflat_len i
      refine ⟨?_, ?_⟩
      · rw [List.getElem?_append_right (by omega), this, Nat.sub_self]; rfl
      · rw [List.getElem?_append_right (by omega), this, show i * 2 + 1 - i * 2 = 1 by omega]; rfl
    · obtain ⟨h1, h2⟩ := sflat_get k i (by omega)
      have := sflat_len k
      exact ⟨by rw [List.getElem?_append_left (by omega)]; exact h1, by rw [List.getElem?_append_left (by omega)]; exact h2⟩
def zss (n : Nat) : List (List (Int × Int) × Int) := List.replicate n ([], 1)
theorem zss_len (n : Nat) : (zss n).length = n := List.length_replicate
theorem zss_get (n i : Nat) (h : i < n) : (zss n).getD i ([], 0) = ([], 1) := by simp [zss, List.getD_eq_getElem?_getD, h]
def StR (B k : Nat) (v : Value) (w : World) : Prop := w.ownsRow B 39 2 v k (sflat k)
theorem StR.slies {B k : Nat} {v : Value} {w : World} (h : StR B k v w) : ∃ a cap, v = .slice a k cap ∧ SLies w.heap.size w a (zss k) := by
  have hc := fun g => World.ownsRow.cells h (g := g)
  have hlt := World.ownsRow.lt h
  obtain ⟨_, h1 | ⟨g, cap, cur, hv, h2⟩⟩ := h
  · exact ⟨none, 0, by rw [h1.1, h1.2], fun i hi => by rw [zss_len] at hi; omega⟩
  · subst hv
    refine ⟨some ⟨g, 0, none⟩, cap, rfl, fun i hi => ?_⟩
    rw [zss_len] at hi
    rw [zss_get k i hi]
    obtain ⟨g1, g2⟩ := sflat_get k i hi
    refine ⟨g, 0, none, 0, rfl, (hlt g rfl).2, by decide, ?_, ?_, fun j hj => absurd hj (Nat.not_lt_zero _)⟩
    · have := hc g rfl (i * 2) _ g1
      rwa [show (⟨g, 0, none⟩ : Addr).add (i * 2) = ⟨g, 0 + i * 2, none⟩ by unfold Addr.add; split <;> simp_all] at this
    · have := hc g rfl (i * 2 + 1) _ g2
      rwa [show (⟨g, 0, none⟩ : Addr).add (i * 2 + 1) = ⟨g, 0 + i * 2 + 1, none⟩ by unfold Addr.add; simp] at this
theorem sumOf_nil : sumOf [] = [] := sumOf_eq ⟨List.Pairwise.nil, fun m hm => absurd hm List.not_mem_nil, fun _ => rfl⟩
theorem tell_none (ls : List (Int × List (Int × Int))) : tellS ls ([], 1) = 0 := by
  show tellK ls.length 0 1 [] (sumOf []) = 0
  rw [sumOf_nil]
  have h : stepK ls.length [] 1 = 0 := by unfold stepK; rw [if_neg (by decide)]; rfl
  rw [tellK_ok h (by decide) (by decide) (by decide)]
  decide
theorem lines_k1 (n : Nat) : (4096 < n → LinesIs [] (zss n) 2 (-1) []) ∧ (n ≤ 4096 → LinesIs [] (zss n) 0 (-1) (lnL [] (zss n) n)) := by
  refine ⟨fun h => .long (.inr (by rw [zss_len]; exact h)), fun h => ?_⟩
  have := LinesIs.ok (ls := []) (ss := zss n) (by decide) (by rw [zss_len]; exact h) (fun i hi => absurd hi (Nat.not_lt_zero _)) (fun j hj => by rw [zss_len] at hj; rw [zss_get n j hj]; exact tell_none _)
  rwa [zss_len] at this
theorem k1_given {B n : Nat} {v : Value} {w : World} (h : StR B n v w) (hn : n ≤ 8192) : ∃ a cap, v = .slice a n cap ∧ Given w.heap.size w none 0 [] a n (zss n) := by
  obtain ⟨a, cap, e, hs⟩ := h.slies
  exact ⟨a, cap, e, rfl, fun i hi => absurd hi (Nat.not_lt_zero _), fun i hi => absurd hi (Nat.not_lt_zero _), zss_len n, hs, by omega, by omega⟩
theorem step_new (w : World) (t : TypeId) (N : Nat) (hN : w.heap.size = N) : ∀ j u, [Value.slice none 0 0, .int .i64 1][j]? = some u → (w.alloc (.cells #[.slice none 0 0, .int .i64 1] t)).cell? ((⟨N, 0, none⟩ : Addr).add j) = some u := by
  subst hN
  exact cell_two_new' w _ _ t
theorem step_one : ∀ u ∈ [Value.slice none 0 0, Value.int .i64 1], u.oneCell' = true := by
  intro u hu
  rcases List.mem_cons.1 hu with rfl | hu
  · rfl
  · rw [List.mem_singleton] at hu; subst hu; rfl
end Go.Proofs.YtmjhjacbhflcpaaDoor

namespace Go.Proofs.YtmjhjacbhflcpaaDoor
open Go.RowKit Go.Maps

set_option maxRecDepth 100000 in
set_option maxHeartbeats 1000000 in
theorem long0_n (hup : UpSaid4) (n which : Int) (m : Nat) (w : World) (h1 : n ≤ 5000) (hm : n = m) (hk : which.tmod 3 = 0) :
    Calls Tryd.prog 5 #[.int .i64 n, .int .i64 which] w fun e w' => e = .returned (.bool true) ∧ Below w.heap.size w w' := by
  have HUP := Lib.hid (fun W => hup W)
  subst hm
  have hm5 : m ≤ 5000 := by omega
  have hm0 : ¬ (m : Int) < 0 := by omega
  have hmk := fun W => run_make_lins2 W (m : Int) m rfl (by omega)
  have HG := Lib.hid (fun W => k0_given W m (by omega) 49)
  have hl1 := (lines_k0 m).1
  have hl2 := (lines_k0 m).2
  have e1 := fun W => Tryd.eqCode 2 2 W
  have HBA := Lib.hid (fun (W : World) (o : Obj) => (Below.refl W.heap.size W).alloc (Nat.le_refl _) o)
  clear hup
  go_enter Tryd.func5, Tryd.ntmps5
  go_wp2_with fail
  refine (HUP.out _).mono ?_
  rintro e w1 ⟨rfl, hb1⟩
  have B1 := Lib.hid hb1
  clear hb1
  go_wp2_with fail
  have B2 := Lib.hid (B1.out.trans ((HBA.out w1 (.cells (madeCells #[.int .i64 0, .slice none 0 0] (m * 2)) 49)).mono B1.out.size))
  have GV := Lib.hid (HG.out w1)
  generalize w1.alloc (.cells (madeCells #[.int .i64 0, .slice none 0 0] (m * 2)) 49) = w2 at B2 GV ⊢
  by_cases h40 : 4096 < m
  · have HL := Lib.hid (lines_any _ m m (zls m) none 0 0 [] w2 GV.out 2 (-1) [] (hl1 h40))
    have h40z : 4096 < (m : Int) := by omega
    clear hmk hl1 hl2 HG
    refine HL.out.mono ?_
    rintro e w3 ⟨v, er, xs, rfl, hrow, hfs, her, hb3⟩
    rw [her.1 (by omega), codeV_ne (by decide)]
    obtain ⟨la, lcap, rfl, _⟩ := hrow.llies
    have hx0 : xs.length = 0 := by rw [← lforms_len, hfs]; rfl
    rw [hx0]
    have B3 := Lib.hid (B2.out.trans (hb3.mono B2.out.size))
    clear hrow hfs her hb3 HL hx0
    go_wp2_with fail
    go_ret
    exact ⟨rfl, B3.out⟩
  · have HL := Lib.hid (lines_any _ m m (zls m) none 0 0 [] w2 GV.out 0 (-1) (zls m) (hl2 (by omega)))
    have h40z : ¬ 4096 < (m : Int) := by omega
    clear hmk hl1 hl2 HG
    refine HL.out.mono ?_
    rintro e w3 ⟨v, er, xs, rfl, hrow, hfs, her, hb3⟩
    rw [her.1 (by omega), codeV_zero]
    obtain ⟨la, lcap, rfl, _⟩ := hrow.llies
    have hx0 : xs.length = m := by rw [← lforms_len, hfs, zls_len]
    rw [hx0]
    have B3 := Lib.hid (B2.out.trans (hb3.mono B2.out.size))
    have hmm : ((m : Int) == (m : Int)) = true := by simp
    have hwm : IntKind.i64.wrap (m : Int) = m := IntWalk.i64_in _ (by omega)
    clear hrow hfs her hb3 HL hx0
    go_wp2_with fail
    go_ret
    exact ⟨rfl, B3.out⟩

set_option maxRecDepth 100000 in
set_option maxHeartbeats 1000000 in
theorem long0_lo (hup : UpSaid4) (n which : Int) (w : World) (h0 : n < 0) (hk : which.tmod 3 = 0) :
    Calls Tryd.prog 5 #[.int .i64 n, .int .i64 which] w fun e w' => e = .returned (.bool true) ∧ Below w.heap.size w w' := by
  have HUP := Lib.hid (fun W => hup W)
  skip
  have hmk := fun W => run_make_lins2 W 3 3 rfl (by omega)
  have HG := Lib.hid (fun W => k0_given W 3 (by omega) 49)
  have hl1 := (lines_k0 3).1
  have hl2 := (lines_k0 3).2
  have e1 := fun W => Tryd.eqCode 2 2 W
  have HBA := Lib.hid (fun (W : World) (o : Obj) => (Below.refl W.heap.size W).alloc (Nat.le_refl _) o)
  clear hup
  go_enter Tryd.func5, Tryd.ntmps5
  go_wp2_with fail
  refine (HUP.out _).mono ?_
  rintro e w1 ⟨rfl, hb1⟩
  have B1 := Lib.hid hb1
  clear hb1
  go_wp2_with fail
  have B2 := Lib.hid (B1.out.trans ((HBA.out w1 (.cells (madeCells #[.int .i64 0, .slice none 0 0] (3 * 2)) 49)).mono B1.out.size))
  have GV := Lib.hid (HG.out w1)
  generalize w1.alloc (.cells (madeCells #[.int .i64 0, .slice none 0 0] (3 * 2)) 49) = w2 at B2 GV ⊢
  have HL := Lib.hid (lines_any _ 3 3 (zls 3) none 0 0 [] w2 GV.out 0 (-1) (zls 3) (hl2 (by omega)))
  clear hmk hl1 hl2 HG
  refine HL.out.mono ?_
  rintro e w3 ⟨v, er, xs, rfl, hrow, hfs, her, hb3⟩
  rw [her.1 (by omega), codeV_zero]
  obtain ⟨la, lcap, rfl, _⟩ := hrow.llies
  have hx0 : xs.length = 3 := by rw [← lforms_len, hfs, zls_len]
  rw [hx0]
  have B3 := Lib.hid (B2.out.trans (hb3.mono B2.out.size))
  clear hrow hfs her hb3 HL hx0
  go_wp2_with fail
  go_ret
  exact ⟨rfl, B3.out⟩

set_option maxRecDepth 100000 in
set_option maxHeartbeats 1000000 in
theorem long0_hi (hup : UpSaid4) (n which : Int) (w : World) (h0 : 5000 < n) (hk : which.tmod 3 = 0) :
    Calls Tryd.prog 5 #[.int .i64 n, .int .i64 which] w fun e w' => e = .returned (.bool true) ∧ Below w.heap.size w w' := by
  have HUP := Lib.hid (fun W => hup W)
  have h9 : ¬ n < 0 := by omega
  have hmk := fun W => run_make_lins2 W 3 3 rfl (by omega)
  have HG := Lib.hid (fun W => k0_given W 3 (by omega) 49)
  have hl1 := (lines_k0 3).1
  have hl2 := (lines_k0 3).2
  have e1 := fun W => Tryd.eqCode 2 2 W
  have HBA := Lib.hid (fun (W : World) (o : Obj) => (Below.refl W.heap.size W).alloc (Nat.le_refl _) o)
  clear hup
  go_enter Tryd.func5, Tryd.ntmps5
  go_wp2_with fail
  refine (HUP.out _).mono ?_
  rintro e w1 ⟨rfl, hb1⟩
  have B1 := Lib.hid hb1
  clear hb1
  go_wp2_with fail
  have B2 := Lib.hid (B1.out.trans ((HBA.out w1 (.cells (madeCells #[.int .i64 0, .slice none 0 0] (3 * 2)) 49)).mono B1.out.size))
  have GV := Lib.hid (HG.out w1)
  generalize w1.alloc (.cells (madeCells #[.int .i64 0, .slice none 0 0] (3 * 2)) 49) = w2 at B2 GV ⊢
  have HL := Lib.hid (lines_any _ 3 3 (zls 3) none 0 0 [] w2 GV.out 0 (-1) (zls 3) (hl2 (by omega)))
  clear hmk hl1 hl2 HG
  refine HL.out.mono ?_
  rintro e w3 ⟨v, er, xs, rfl, hrow, hfs, her, hb3⟩
  rw [her.1 (by omega), codeV_zero]
  obtain ⟨la, lcap, rfl, _⟩ := hrow.llies
  have hx0 : xs.length = 3 := by rw [← lforms_len, hfs, zls_len]
  rw [hx0]
  have B3 := Lib.hid (B2.out.trans (hb3.mono B2.out.size))
  clear hrow hfs her hb3 HL hx0
  go_wp2_with fail
  go_ret
  exact ⟨rfl, B3.out⟩
end Go.Proofs.YtmjhjacbhflcpaaDoor
