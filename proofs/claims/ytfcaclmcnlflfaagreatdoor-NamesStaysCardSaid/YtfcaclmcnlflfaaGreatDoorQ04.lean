/- Parts of a proof. -/
import Derived.Test.YtfcaclmcnlflfaaGreatDoorQ01
import Derived.Test.YtfcaclmcnlflfaaGreatDoorQ02
set_option linter.unusedVariables false
set_option linter.unusedSimpArgs false
set_option maxHeartbeats 60000000
set_option maxRecDepth 100000
namespace Go.Proofs.YtfcaclmcnlflfaaGreatDoor
section
open Go.RowKit Go.Extern.Stop Go.Stop Go.Extern
theorem as_hit (e t:Addr)(old:Value)(w:World)(hg:w.cell? ⟨0,0,none⟩=some (.iface 136 (.agg #[.pointer (some ⟨3,28,none⟩)])))(ht0:w.cell? t=some old)(hf0:w.frozen? t=false):
 Calls Tryz.prog 27 #[.iface 57 (.pointer (some e)),.iface 74 (.pointer (some t))] w fun ev w'=>ev= .returned (.bool true)∧w'=((((w.alloc (.cells #[.pointer (some t)] 74)).alloc (.cells #[.pointer (some ⟨3,74,none⟩),.pointer (some ⟨w.heap.size,0,none⟩),.int .u64 150] 102)).alloc (.cells #[.pointer (some ⟨3,74,none⟩),.pointer (some ⟨w.heap.size,0,none⟩),.int .u64 150] 102)).alloc (.cells #[.pointer (some e)] 57)).setCell t (.pointer (some e)):=by
 have h6:= @run_callFunc_extern Tryz.prog 57 _ (fun args=>ReflectliteValue.unpack (args.getD 0 (.tuple #[]))) Tryz.func57 (by kernel_rfl) (by kernel_rfl) (by kernel_rfl) (by kernel_rfl)
 have h7:= @run_callFunc_extern Tryz.prog 58 _ (ReflectliteValue.methodAny (ReflectliteValue.valueError "reflectlite.Value.Type" 0) (fun t _ _ _=>ReflectliteType.toType t)) Tryz.func58 (by kernel_rfl) (by kernel_rfl) (by kernel_rfl) (by kernel_rfl)
 have h8:= @run_callFunc_extern Tryz.prog 59 _ (ReflectliteValue.method (ReflectliteValue.valueError "reflectlite.Value.IsNil" 0) ReflectliteValue.isNil) Tryz.func59 (by kernel_rfl) (by kernel_rfl) (by kernel_rfl) (by kernel_rfl)
 have h27:= @run_callFunc_extern Tryz.prog 148 _ (ReflectliteType.abiMethod fun t=>do pure (.int .u8 (←Rtype.kind t))) Tryz.func148 (by kernel_rfl) (by kernel_rfl) (by kernel_rfl) (by kernel_rfl)
 have h37:= @run_callFunc_extern Tryz.prog 160 _ (ReflectliteType.method ReflectliteType.elem) Tryz.func160 (by kernel_rfl) (by kernel_rfl) (by kernel_rfl) (by kernel_rfl)
 have h38:= @run_callFunc_extern Tryz.prog 161 _ (ReflectliteType.relation "Implements" ReflectliteType.implements_) Tryz.func161 (by kernel_rfl) (by kernel_rfl) (by kernel_rfl) (by kernel_rfl)
 have h10:= @run_callFunc_extern Tryz.prog 61 _ ReflectliteType.typeOf Tryz.func61 (by kernel_rfl) (by kernel_rfl) (by kernel_rfl) (by kernel_rfl)
 have h35:= @run_callFunc_extern Tryz.prog 158 _ (ReflectliteType.relation "AssignableTo" ReflectliteType.assignableTo) Tryz.func158 (by kernel_rfl) (by kernel_rfl) (by kernel_rfl) (by kernel_rfl)
 have h11:= @run_callFunc_extern Tryz.prog 96 _ (ReflectliteValue.method (ReflectliteValue.valueError "reflectlite.Value.Elem" 0) ReflectliteValue.elem) Tryz.func96 (by kernel_rfl) (by kernel_rfl) (by kernel_rfl) (by kernel_rfl)
 have h12:= @run_callFunc_extern Tryz.prog 97 _ ReflectliteValue.set Tryz.func97 (by kernel_rfl) (by kernel_rfl) (by kernel_rfl) (by kernel_rfl)
 have tO:=Tryz.typeOfP
 have mA:=Tryz.methodAssignableTo
 have a25:=Tryz.assignableP
 have v25:=Tryz.valueOfP
 have f6:=Tryz.valueOfPP
 have f7:=Tryz.typePP
 have mK:=Tryz.methodKind
 have mE:=Tryz.methodElem
 have mI:=Tryz.methodImplements
 have k27:=Tryz.kindPP
 have k25:=Tryz.kindP
 have e27:=Tryz.elemPP
 have i25:=Tryz.implementsP
 have n8:=Tryz.isNilPP ⟨w.heap.size,0,none⟩ t ((w.alloc (.cells #[.pointer (some t)] 74)).alloc (.cells #[.pointer (some ⟨3,74,none⟩),.pointer (some ⟨w.heap.size,0,none⟩),.int .u64 150] 102)) (by simp)
 have hlt:0<w.heap.size:=by
  exact block_lt_of_cell hg
 have hg2:((w.alloc (.cells #[.pointer (some t)] 74)).alloc (.cells #[.pointer (some ⟨3,74,none⟩),.pointer (some ⟨w.heap.size,0,none⟩),.int .u64 150] 102)).cell? ⟨0,0,none⟩=some (.iface 136 (.agg #[.pointer (some ⟨3,28,none⟩)])):=by
  rw[World.cell?_alloc_lt _ _ ⟨0,0,none⟩ (by simp<;>omega),World.cell?_alloc_lt _ _ ⟨0,0,none⟩ hlt];exact hg
 have htl:t.block<w.heap.size:=by
  rcases Nat.lt_or_ge t.block w.heap.size with h | h
  ·exact h
  ·simp[World.cell?,Array.getElem?_eq_none h]at ht0
 have el:=Tryz.elemVPP ⟨w.heap.size,0,none⟩ t (((w.alloc (.cells #[.pointer (some t)] 74)).alloc (.cells #[.pointer (some ⟨3,74,none⟩),.pointer (some ⟨w.heap.size,0,none⟩),.int .u64 150] 102)).alloc (.cells #[.pointer (some ⟨3,74,none⟩),.pointer (some ⟨w.heap.size,0,none⟩),.int .u64 150] 102)) (by rw[World.cell?_alloc_lt _ _ ⟨w.heap.size,0,none⟩ (by simp<;>omega)];simp)
 have st:=Tryz.setP t ⟨w.heap.size+1+1+1,0,none⟩ e old ((((w.alloc (.cells #[.pointer (some t)] 74)).alloc (.cells #[.pointer (some ⟨3,74,none⟩),.pointer (some ⟨w.heap.size,0,none⟩),.int .u64 150] 102)).alloc (.cells #[.pointer (some ⟨3,74,none⟩),.pointer (some ⟨w.heap.size,0,none⟩),.int .u64 150] 102)).alloc (.cells #[.pointer (some e)] 57))
  (by rw[World.cell?_alloc_at _ _ _ _ (by simp)];rfl)
  (by rw[World.cell?_alloc_lt _ _ t (by simp<;>omega),World.cell?_alloc_lt _ _ t (by simp<;>omega),World.cell?_alloc_lt _ _ t (by simp<;>omega),World.cell?_alloc_lt _ _ t htl];exact ht0)
  (by rw[World.frozen?_alloc_old _ _ t (by simp<;>omega),World.frozen?_alloc_old _ _ t (by simp<;>omega),World.frozen?_alloc_old _ _ t (by simp<;>omega),World.frozen?_alloc_old _ _ t (Nat.ne_of_lt htl)];exact hf0)
 go_enter Tryz.func27,Tryz.ntmps27
 go_wp2
 refine wp_loop_rounds 1 ?_
 rw[rounds_succ]
 go_wp2
 go_ret
 exact⟨rfl,rfl⟩
theorem as_spot (e:Addr)(b:Nat)(old:Value)(w:World)(hg:w.cell? ⟨0,0,none⟩=some (.iface 136 (.agg #[.pointer (some ⟨3,28,none⟩)])))(ht0:w.cell? ⟨b,0,none⟩=some old)(hf0:w.frozen? ⟨b,0,none⟩=false)(hb:b<w.heap.size):
 Calls Tryz.prog 27 #[.iface 57 (.pointer (some e)),.iface 74 (.pointer (some ⟨b,0,none⟩))] w fun ev w'=>ev= .returned (.bool true)∧w'.cell? ⟨b,0,none⟩=some (.pointer (some e))∧Below b w w'∧b<w'.heap.size:=by
 refine(as_hit e ⟨b,0,none⟩ old w hg ht0 hf0).mono ?_
 rintro ev w' ⟨rfl,rfl⟩
 have hA:Below w.heap.size w ((((w.alloc (.cells #[.pointer (some ⟨b,0,none⟩)] 74)).alloc (.cells #[.pointer (some ⟨3,74,none⟩),.pointer (some ⟨w.heap.size,0,none⟩),.int .u64 150] 102)).alloc (.cells #[.pointer (some ⟨3,74,none⟩),.pointer (some ⟨w.heap.size,0,none⟩),.int .u64 150] 102)).alloc (.cells #[.pointer (some e)] 57)):=by
  refine Below.alloc (Below.alloc (Below.alloc (Below.alloc (Below.refl _ _) ?_ _) ?_ _) ?_ _) ?_ _<;>simp<;>omega
 refine⟨rfl,World.cell?_setCell_same _ _ _ ((hA.cell (p:=⟨b,0,none⟩) hb).trans ht0),(hA.mono (Nat.le_of_lt hb)).setCell (p:=⟨b,0,none⟩) (Nat.le_refl _) _, ?_⟩
 rw[World.size_setCell]
 exact Nat.lt_of_lt_of_le hb hA.size
theorem Tryz.noIsP (v:Value)(xT:TypeId)(w:World):(Instr.typeAssert (.iface 57 v) xT 148 true).run Tryz.prog w= .ok (.tuple #[.nilIface,.bool false]) w:=run_typeAssert_lacksB Tryz.underlying148 (by kernel_rfl) (by kernel_rfl) v xT w
theorem Tryz.hasUnwrapP (v:Value)(xT:TypeId)(w:World):(Instr.typeAssert (.iface 57 v) xT 143 true).run Tryz.prog w= .ok (.tuple #[.iface 57 v,.bool true]) w:=run_typeAssert_hasB Tryz.underlying143 (by kernel_rfl) v xT w
theorem Tryz.methodUnwrapP (v:Value)(w:World):(Go.method 304 57 v "Unwrap").run Tryz.prog w= .ok (153,v) w:=by kernel_rfl
theorem is_spotcode (g:Nat)(k:Int)(w:World)(h1:w.cell? ⟨g,1,none⟩=some (.iface 51 (.int .i64 k))):
 Calls Tryz.prog 28 #[.iface 57 (.pointer (some ⟨g,0,none⟩)),.iface 51 (.int .i64 k)] w fun e w'=>e= .returned (.bool true)∧w'=w:=by
 have h8:= @run_callFunc_extern Tryz.prog 61 _ Extern.ReflectliteType.typeOf Tryz.func61 (by kernel_rfl) (by kernel_rfl) (by kernel_rfl) (by kernel_rfl)
 have h32:= @run_callFunc_extern Tryz.prog 159 _ (Extern.ReflectliteType.method fun t=>do Rtype.noPackHeld "Comparable" t;pure (.bool (←typeInfo t).comparable)) Tryz.func159 (by kernel_rfl) (by kernel_rfl) (by kernel_rfl) (by kernel_rfl)
 have hC:∀W,(callFunc 159 #[.agg #[.pointer (some ⟨3,51,none⟩)]]).run Tryz.prog W= .ok (.value (.bool true)) W:=fun W=>by rw[h32,Tryz.comparableC];rfl
 clear h32
 have tT:=Tryz.typeOfC
 have mR:=Tryz.methodComparable
 have nW:=Tryz.noIsP
 have uW:=Tryz.hasUnwrapP
 have mU:=Tryz.methodUnwrapP
 have heq:=Tryz.eqCode k k w
 have hkk:(k == k)=true:=by simp
 have hty:=run_eql_iface_types (P:=Tryz.prog) 57 51 (.pointer (some ⟨g,0,none⟩)) (.int .i64 k) Tryz.underlying28 (by decide) w
 go_enter Tryz.func28,Tryz.ntmps28
 go_wp2
 refine wp_loop_rounds 2 ?_
 rw[rounds_succ]
 go_wp2
 rw[rounds_succ]
 go_wp2
 go_ret
 exact⟨rfl,rfl⟩
end
section
open Go.RowKit Go.Extern.Stop Go.Stop Go.Extern
def Laid0 (w:World):Prop:=w.cell? ⟨0,0,none⟩=some (.iface 136 (.agg #[.pointer (some ⟨3,28,none⟩)]))
theorem Laid0.pos {w:World}(h:Laid0 w):0<w.heap.size:=block_lt_of_cell (a:=⟨0,0,none⟩) h
theorem Laid0.below {w w':World}{B:Nat}(h:Laid0 w)(hb:Below B w w')(hB:0<B):Laid0 w':=(hb.cell (p:=⟨0,0,none⟩) hB).trans h
theorem Tryz.isCompP:(Tryz.prog.info? 57).map (·.comparable)=some true:=by kernel_rfl
theorem Tryz.isSizeS:(Tryz.prog.info? 59).map (·.size)=some 2:=by kernel_rfl
theorem Tryz.neSame (g:Addr)(W:World):(binOp .neq 28 (.iface 57 (.pointer (some g))) (.iface 57 (.pointer (some g)))).run Tryz.prog W= .ok (.bool false) W:=by
 obtain⟨i,hi,hcmp⟩:=Option.map_eq_some_iff.1 Tryz.isCompP
 obtain⟨j,hj,hjs⟩:=Option.map_eq_some_iff.1 Tryz.isSizeS
 simp only[binOp]
 simp[Op.equal,Op.maxDepth,run_equalIn_iface_ptr_same (P:=Tryz.prog) W 9998 g Tryz.underlying28 Tryz.underlying57 hi hcmp hj]
theorem sis_any (g:Nat)(at' k:Int)(w:World)(hg:Laid0 w)(hgb:g<w.heap.size)(h0:w.cell? ⟨g,0,none⟩=some (.int .i64 at'))(h1:w.cell? ⟨g,1,none⟩=some (.iface 51 (.int .i64 k))):
 Calls Tryz.prog 11 #[.iface 57 (.pointer (some ⟨g,0,none⟩)),.int .i64 at',.int .i64 k] w fun e w'=>e= .returned (.bool true)∧Below w.heap.size w w':=by
 have hb0:Below w.heap.size w (w.alloc (.cells #[.pointer none] 57)):=(Below.refl _ w).alloc (Nat.le_refl _) _
 have hn:=heap_alloc_new w (.cells #[.pointer none] 57)
 have HAS:=Lib.hid (as_spot ⟨g,0,none⟩ w.heap.size (.pointer none) (w.alloc (.cells #[.pointer none] 57)) (hg.below hb0 hg.pos) ((cell_of_row _ _ _ _ _ _ hn).trans rfl) (frozen_of_row _ _ _ _ _ hn) (by simp))
 have HB0:=Lib.hid hb0
 have HIS:=Lib.hid (fun W h=>is_spotcode g k W h)
 have ne:=Tryz.neSame ⟨g,0,none⟩
 have e1:=fun W=>Tryz.eqCode k k W
 have hkk:(k == k)=true:=by simp
 have haa:(at' == at')=true:=by simp
 clear hg hn hb0
 go_enter Tryz.func11,Tryz.ntmps11
 go_wp2_with fail
 refine HAS.out.mono ?_
 rintro e w1 ⟨rfl,hc1,hb1,hz1⟩
 have q0:w1.cell? ⟨g,0,none⟩=some (.int .i64 at'):=(hb1.cell (p:=⟨g,0,none⟩) hgb).trans ((HB0.out.cell (p:=⟨g,0,none⟩) hgb).trans h0)
 have q1:w1.cell? ⟨g,1,none⟩=some (.iface 51 (.int .i64 k)):=(hb1.cell (p:=⟨g,1,none⟩) hgb).trans ((HB0.out.cell (p:=⟨g,1,none⟩) hgb).trans h1)
 have HB1:Hid (Below w.heap.size w w1):=HB0.out.trans hb1
 clear hb1 h0 h1 HAS
 go_wp2_with fail
 refine(HIS.out _ q1).mono ?_
 rintro e w2 ⟨rfl,rfl⟩
 go_wp2_with fail
 go_ret
 exact⟨rfl,HB1.out⟩
theorem etold_any {B:Nat}{x at':Int}{er:Value}{w:World}(h:ErrIs B x at' er w)(hx:0≤x∧x≤16)(hp:0≤at'→x≠0)(hg:Laid0 w):
 Calls Tryz.prog 9 #[er,.int .i64 x,.int .i64 at'] w fun e w'=>e= .returned (.bool true)∧Below w.heap.size w w':=by
 have hxx:(x == x)=true:=by simp
 by_cases ha:at'<0
 ·have HC:Hid (∀W,Calls Tryz.prog 23 #[codeV x] W fun e w'=>e= .returned (.int .i64 x)∧W=w'):=fun W=>by
   by_cases h0:x=0
   ·rw[h0,codeV_zero];exact code_nil W
   ·rw[codeV_ne h0];exact code_k x W (by omega) (by omega)
  rw[h.1 ha]
  clear h hg
  go_enter Tryz.func9,Tryz.ntmps9
  go_wp2_with fail
  refine(HC.out _).mono ?_
  rintro e w1 ⟨rfl,rfl⟩
  go_wp2_with fail
  go_ret
  exact⟨rfl,Below.refl _ _⟩
 ·obtain⟨g,e1,_,e3,e4,e5⟩:=h.2 (by omega)
  rw[codeV_ne (hp (by omega))]at e5
  have HI:=Lib.hid (sis_any g at' x w hg e3 e4 e5)
  rw[e1]
  clear h hg e1 e4 e5
  go_enter Tryz.func9,Tryz.ntmps9
  go_wp2_with fail
  refine HI.out.mono ?_
  rintro e w1 ⟨rfl,hb1⟩
  go_wp2_with fail
  go_ret
  exact⟨rfl,hb1⟩
end
end Go.Proofs.YtfcaclmcnlflfaaGreatDoor
