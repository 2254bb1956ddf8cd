/- Parts of a proof. -/
import Derived.Test.YtcinokljkieijaaGreatDoorProg
import Derived.WalkKit
import Derived.LaidEql
import Derived.Stop.Asserts
import Derived.RowKitTokens
import Derived.Below
import Derived.Lib.Hide
import Derived.Test.YtcinokljkieijaaGreatDoorChecked
import Derived.Lib.AtoiAll
import Derived.Laws.RangeAny
import GoSem.Op.String
import Derived.Deep.QuietTactic
import Derived.BigQuiet
import Derived.Shelf.Abstract
set_option linter.unusedVariables false
set_option linter.unusedSimpArgs false
set_option maxHeartbeats 60000000
set_option maxRecDepth 100000
namespace Go.Proofs.YtcinokljkieijaaGreatDoor
section
open Go.RowKit Go.Extern.Stop Go.Stop Go.Extern
theorem Tryz.valueOfPP (t:Addr)(w:World):(ReflectliteValue.unpack (.iface 111 (.pointer (some t)))).run Tryz.prog w
 = .ok (.agg #[.pointer (some ⟨9,111,none⟩),.pointer (some ⟨w.heap.size,0,none⟩),.int .u64 150]) (w.alloc (.cells #[.pointer (some t)] 111)):=by kernel_rfl
theorem Tryz.typePP (a:Addr)(w:World):(ReflectliteValue.methodAny (ReflectliteValue.valueError "reflectlite.Value.Type" 0) (fun t _ _ _=>ReflectliteType.toType t) #[.agg #[.pointer (some ⟨9,111,none⟩),.pointer (some a),.int .u64 150]]).run Tryz.prog w
 = .ok (.iface 197 (.agg #[.pointer (some ⟨9,111,none⟩)])) w:=by kernel_rfl
theorem Tryz.methodKind (h:Value)(w:World):(Go.method 387 197 (.agg #[h]) "Kind").run Tryz.prog w= .ok (251,h) w:=by kernel_rfl
theorem Tryz.kindPP (w:World):((ReflectliteType.abiMethod fun t=>(fun a:Nat=>Value.int IntKind.u8 (a:Int)) <$> Rtype.kind t) #[.pointer (some ⟨9,111,none⟩)]).run Tryz.prog w= .ok (.int .u8 22) w:=by kernel_rfl
theorem Tryz.kindP (w:World):((ReflectliteType.abiMethod fun t=>(fun a:Nat=>Value.int IntKind.u8 (a:Int)) <$> Rtype.kind t) #[.pointer (some ⟨9,87,none⟩)]).run Tryz.prog w= .ok (.int .u8 22) w:=by kernel_rfl
theorem rlm (z:Sem Value)(f:TypeId→Addr→Nat→Nat→Sem Value)(v:Value):
 ReflectliteValue.method z f #[v]=(do match←ReflectliteValue.parts v with | none=>z | some (t,a,fl)=>f t a fl (fl % 32)):=rfl
theorem Tryz.partsPP (a:Addr)(w:World):(ReflectliteValue.parts (.agg #[.pointer (some ⟨9,111,none⟩),.pointer (some a),.int .u64 150])).run Tryz.prog w= .ok (some (111,a,150)) w:=by kernel_rfl
theorem Tryz.isNilPP (a p:Addr)(W:World)(ha:W.cell? a=some (.pointer (some p))):
 (ReflectliteValue.method (ReflectliteValue.valueError "reflectlite.Value.IsNil" 0) ReflectliteValue.isNil #[.agg #[.pointer (some ⟨9,111,none⟩),.pointer (some a),.int .u64 150]]).run Tryz.prog W= .ok (.bool false) W:=by
 rw[rlm]
 simp only[Sem.run_bind,Tryz.partsPP,Result.andThen]
 simp[ReflectliteValue.isNil,loadVar,isAgg,underlying,Tryz.underlying111,ha,Result.andThen]
theorem Tryz.methodElem (h:Value)(w:World):(Go.method 387 197 (.agg #[h]) "Elem").run Tryz.prog w= .ok (263,.agg #[h]) w:=by kernel_rfl
theorem Tryz.methodImplements (h:Value)(w:World):(Go.method 387 197 (.agg #[h]) "Implements").run Tryz.prog w= .ok (264,.agg #[h]) w:=by kernel_rfl
theorem Tryz.methodAssignableTo (h:Value)(w:World):(Go.method 387 197 (.agg #[h]) "AssignableTo").run Tryz.prog w= .ok (261,.agg #[h]) w:=by kernel_rfl
theorem Tryz.methodComparable (h:Value)(w:World):(Go.method 387 197 (.agg #[h]) "Comparable").run Tryz.prog w= .ok (262,.agg #[h]) w:=by kernel_rfl
theorem Tryz.elemPP (w:World):(ReflectliteType.method ReflectliteType.elem #[.agg #[.pointer (some ⟨9,111,none⟩)]]).run Tryz.prog w= .ok (.iface 197 (.agg #[.pointer (some ⟨9,87,none⟩)])) w:=by kernel_rfl
theorem Tryz.implementsP (w:World):(ReflectliteType.relation "Implements" ReflectliteType.implements_ #[.agg #[.pointer (some ⟨9,87,none⟩)],.iface 197 (.agg #[.pointer (some ⟨9,27,none⟩)])]).run Tryz.prog w= .ok (.bool true) w:=by kernel_rfl
theorem Tryz.typeOfP (v:Value)(w:World):(ReflectliteType.typeOf #[.iface 87 v]).run Tryz.prog w= .ok (.iface 197 (.agg #[.pointer (some ⟨9,87,none⟩)])) w:=by kernel_rfl
theorem Tryz.typeOfC (v:Value)(w:World):(ReflectliteType.typeOf #[.iface 50 v]).run Tryz.prog w= .ok (.iface 197 (.agg #[.pointer (some ⟨9,50,none⟩)])) w:=by kernel_rfl
theorem Tryz.comparableC (w:World):((ReflectliteType.method fun t=>do Rtype.noPackHeld "Comparable" t;pure (.bool (←typeInfo t).comparable)) #[.agg #[.pointer (some ⟨9,50,none⟩)]]).run Tryz.prog w= .ok (.bool true) w:=by kernel_rfl
theorem Tryz.assignableP (w:World):(ReflectliteType.relation "AssignableTo" ReflectliteType.assignableTo #[.agg #[.pointer (some ⟨9,87,none⟩)],.iface 197 (.agg #[.pointer (some ⟨9,87,none⟩)])]).run Tryz.prog w= .ok (.bool true) w:=by kernel_rfl
theorem Tryz.valueOfP (e:Addr)(w:World):(ReflectliteValue.unpack (.iface 87 (.pointer (some e)))).run Tryz.prog w
 = .ok (.agg #[.pointer (some ⟨9,87,none⟩),.pointer (some ⟨w.heap.size,0,none⟩),.int .u64 150]) (w.alloc (.cells #[.pointer (some e)] 87)):=by kernel_rfl
theorem Tryz.elemOfPP (w:World):(Rtype.elem? 111).run Tryz.prog w= .ok (some 87) w:=by kernel_rfl
theorem Tryz.mkP (p:Addr)(w:World):(ReflectliteValue.mk 87 p ReflectliteValue.flagAddr).run Tryz.prog w= .ok (.agg #[.pointer (some ⟨9,87,none⟩),.pointer (some p),.int .u64 406]) w:=by kernel_rfl
theorem Tryz.elemVPP (a p:Addr)(W:World)(ha:W.cell? a=some (.pointer (some p))):
 (ReflectliteValue.method (ReflectliteValue.valueError "reflectlite.Value.Elem" 0) ReflectliteValue.elem #[.agg #[.pointer (some ⟨9,111,none⟩),.pointer (some a),.int .u64 150]]).run Tryz.prog W
   = .ok (.agg #[.pointer (some ⟨9,87,none⟩),.pointer (some p),.int .u64 406]) W:=by
 rw[rlm]
 simp only[Sem.run_bind,Tryz.partsPP,Result.andThen]
 simp[ReflectliteValue.elem,loadVar,isAgg,underlying,Tryz.underlying111,ha,Result.andThen,Tryz.elemOfPP,Tryz.mkP]
theorem rls (v x:Value):ReflectliteValue.set #[v,x]=(do
 let (some (dst,a,fl),some (src,b,_)):=(←ReflectliteValue.parts v,←ReflectliteValue.parts x)
  | unsupported (.noEntry "extern/(internal/reflectlite.Value).Set.zeroValue")
 if fl / ReflectliteValue.flagAddr % 2 == 0 then unsupported (.noEntry "extern/(internal/reflectlite.Value).Set.unaddressable")
 let val←loadVar src b
 if←Rtype.directlyAssignable dst src then storeVar dst a val
 else if←Rtype.implements dst src then
  if(←Rtype.kind src) == 20 then
   match val with
   | .nilIface=>unsupported (.noEntry "extern/reflectlite: a nil value of one interface type handed on as a value of another")
   | _=>storeVar dst a val
  else storeVar dst a (.iface src val)
 else panicString ("reflectlite.Set: value of type " ++ (←Rtype.spelt src) ++ " is not assignable to type " ++ (←Rtype.spelt dst))
 pure (.tuple #[])):=rfl
theorem Tryz.partsPa (a:Addr)(w:World):(ReflectliteValue.parts (.agg #[.pointer (some ⟨9,87,none⟩),.pointer (some a),.int .u64 406])).run Tryz.prog w= .ok (some (87,a,406)) w:=by kernel_rfl
theorem Tryz.partsP (a:Addr)(w:World):(ReflectliteValue.parts (.agg #[.pointer (some ⟨9,87,none⟩),.pointer (some a),.int .u64 150])).run Tryz.prog w= .ok (some (87,a,150)) w:=by kernel_rfl
theorem Tryz.directP (w:World):(Rtype.directlyAssignable 87 87).run Tryz.prog w= .ok true w:=by kernel_rfl
theorem Tryz.setP (ta b e:Addr)(old:Value)(W:World)(hb:W.cell? b=some (.pointer (some e)))(ht:W.cell? ta=some old)(hf:W.frozen? ta=false):
 (ReflectliteValue.set #[.agg #[.pointer (some ⟨9,87,none⟩),.pointer (some ta),.int .u64 406],.agg #[.pointer (some ⟨9,87,none⟩),.pointer (some b),.int .u64 150]]).run Tryz.prog W
   = .ok (.tuple #[]) (W.setCell ta (.pointer (some e))):=by
 rw[rls]
 simp only[Sem.run_bind,Tryz.partsPa,Tryz.partsP,Result.andThen]
 simp[ReflectliteValue.flagAddr,loadVar,isAgg,underlying,Tryz.underlying87,hb,Result.andThen,Tryz.directP,storeVar,Value.cells,storeCells,Addr.add]
 rw[run_store Tryz.prog W ta _ _ (by rfl)]
 simp[ht,hf]
end
section
open Go.RowKit
theorem Tryz.eqIface (t:TypeId)(v:Value)(w:World):(binOp .eql 27 (.iface t v) .nilIface).run Tryz.prog w= .ok (.bool false) w:=by simp[go_sem]
theorem Tryz.eqNil (w:World):(binOp .eql 27 .nilIface .nilIface).run Tryz.prog w= .ok (.bool true) w:=by simp[go_sem]
theorem Tryz.neIface (t:TypeId)(v:Value)(w:World):(binOp .neq 27 (.iface t v) .nilIface).run Tryz.prog w= .ok (.bool true) w:=by simp[go_sem]
theorem Tryz.neNil (w:World):(binOp .neq 27 .nilIface .nilIface).run Tryz.prog w= .ok (.bool false) w:=by simp[go_sem]
section
variable {P:Program} (w:World)
theorem run_equalIn_iface_int (d:Nat){ti tn:TypeId}{ms:Array (String×TypeId)}{i:TypeInfo}{k:IntKind}(a b:Int)
 (hi:P.underlying ti=some (.interface ms)) (hn:P.underlying tn=some (.int k)) (hinfo:P.info? tn=some i) (hcomp:i.comparable=true):
 (Op.equalIn (d+2) ti (.iface tn (.int k a)) (.iface tn (.int k b))).run P w= .ok (a == b) w:=by
 simp[Op.equalIn,run_underlying hi,run_underlying hn,typeInfo,hinfo,hcomp]
theorem run_eql_iface_int {ti tn:TypeId}{ms:Array (String×TypeId)}{i:TypeInfo}{k:IntKind}(a b:Int)
 (hi:P.underlying ti=some (.interface ms)) (hn:P.underlying tn=some (.int k)) (hinfo:P.info? tn=some i) (hcomp:i.comparable=true):
 (binOp .eql ti (.iface tn (.int k a)) (.iface tn (.int k b))).run P w= .ok (.bool (a == b)) w:=by
 simp only[binOp]
 simp[Op.equal,Op.maxDepth,run_equalIn_iface_int w 9998 a b hi hn hinfo hcomp]
end
theorem Tryz.eqCode (a b:Int)(w:World):(binOp .eql 27 (.iface 50 (.int .i64 a)) (.iface 50 (.int .i64 b))).run Tryz.prog w= .ok (.bool (a == b)) w:=
 run_eql_iface_int (P:=Tryz.prog) w a b Tryz.underlying27 Tryz.underlying50 (i:=Tryz.t50) (by kernel_rfl) (by kernel_rfl)
def codeV (k:Int):Value:=if k=0 then .nilIface else .iface 50 (.int .i64 k)
theorem codeV_ne {k:Int}(h:k≠0):codeV k= .iface 50 (.int .i64 k):=if_neg h
def ErrIs (B:Nat)(x at':Int)(er:Value)(w:World):Prop:=
 (at'<0→er=codeV x)∧(0≤at'→∃g,er= .iface 87 (.pointer (some ⟨g,0,none⟩))∧B≤g∧g<w.heap.size∧w.cell? ⟨g,0,none⟩=some (.int .i64 at')∧w.cell? ⟨g,1,none⟩=some (codeV x))
end
section
open Go.RowKit Go.Extern.Stop Go.Stop Go.Extern
theorem as_hit (e t:Addr)(old:Value)(w:World)(hg:w.cell? ⟨1,0,none⟩=some (.iface 197 (.agg #[.pointer (some ⟨9,27,none⟩)])))(ht0:w.cell? t=some old)(hf0:w.frozen? t=false):
 Calls Tryz.prog 52 #[.iface 87 (.pointer (some e)),.iface 111 (.pointer (some t))] w fun ev w'=>ev= .returned (.bool true)∧w'=((((w.alloc (.cells #[.pointer (some t)] 111)).alloc (.cells #[.pointer (some ⟨9,111,none⟩),.pointer (some ⟨w.heap.size,0,none⟩),.int .u64 150] 153)).alloc (.cells #[.pointer (some ⟨9,111,none⟩),.pointer (some ⟨w.heap.size,0,none⟩),.int .u64 150] 153)).alloc (.cells #[.pointer (some e)] 87)).setCell t (.pointer (some e)):=by
 have h6:= @run_callFunc_extern Tryz.prog 110 _ (fun args=>ReflectliteValue.unpack (args.getD 0 (.tuple #[]))) Tryz.func110 (by kernel_rfl) (by kernel_rfl) (by kernel_rfl) (by kernel_rfl)
 have h7:= @run_callFunc_extern Tryz.prog 111 _ (ReflectliteValue.methodAny (ReflectliteValue.valueError "reflectlite.Value.Type" 0) (fun t _ _ _=>ReflectliteType.toType t)) Tryz.func111 (by kernel_rfl) (by kernel_rfl) (by kernel_rfl) (by kernel_rfl)
 have h8:= @run_callFunc_extern Tryz.prog 112 _ (ReflectliteValue.method (ReflectliteValue.valueError "reflectlite.Value.IsNil" 0) ReflectliteValue.isNil) Tryz.func112 (by kernel_rfl) (by kernel_rfl) (by kernel_rfl) (by kernel_rfl)
 have h27:= @run_callFunc_extern Tryz.prog 251 _ (ReflectliteType.abiMethod fun t=>do pure (.int .u8 (←Rtype.kind t))) Tryz.func251 (by kernel_rfl) (by kernel_rfl) (by kernel_rfl) (by kernel_rfl)
 have h37:= @run_callFunc_extern Tryz.prog 263 _ (ReflectliteType.method ReflectliteType.elem) Tryz.func263 (by kernel_rfl) (by kernel_rfl) (by kernel_rfl) (by kernel_rfl)
 have h38:= @run_callFunc_extern Tryz.prog 264 _ (ReflectliteType.relation "Implements" ReflectliteType.implements_) Tryz.func264 (by kernel_rfl) (by kernel_rfl) (by kernel_rfl) (by kernel_rfl)
 have h10:= @run_callFunc_extern Tryz.prog 114 _ ReflectliteType.typeOf Tryz.func114 (by kernel_rfl) (by kernel_rfl) (by kernel_rfl) (by kernel_rfl)
 have h35:= @run_callFunc_extern Tryz.prog 261 _ (ReflectliteType.relation "AssignableTo" ReflectliteType.assignableTo) Tryz.func261 (by kernel_rfl) (by kernel_rfl) (by kernel_rfl) (by kernel_rfl)
 have h11:= @run_callFunc_extern Tryz.prog 166 _ (ReflectliteValue.method (ReflectliteValue.valueError "reflectlite.Value.Elem" 0) ReflectliteValue.elem) Tryz.func166 (by kernel_rfl) (by kernel_rfl) (by kernel_rfl) (by kernel_rfl)
 have h12:= @run_callFunc_extern Tryz.prog 167 _ ReflectliteValue.set Tryz.func167 (by kernel_rfl) (by kernel_rfl) (by kernel_rfl) (by kernel_rfl)
 have tO:=Tryz.typeOfP
 have mA:=Tryz.methodAssignableTo
 have a25:=Tryz.assignableP
 have v25:=Tryz.valueOfP
 have f6:=Tryz.valueOfPP
 have f7:=Tryz.typePP
 have mK:=Tryz.methodKind
 have mE:=Tryz.methodElem
 have mI:=Tryz.methodImplements
 have k27:=Tryz.kindPP
 have k25:=Tryz.kindP
 have e27:=Tryz.elemPP
 have i25:=Tryz.implementsP
 have n8:=Tryz.isNilPP ⟨w.heap.size,0,none⟩ t ((w.alloc (.cells #[.pointer (some t)] 111)).alloc (.cells #[.pointer (some ⟨9,111,none⟩),.pointer (some ⟨w.heap.size,0,none⟩),.int .u64 150] 153)) (by simp)
 have hlt:1<w.heap.size:=by
  exact block_lt_of_cell hg
 have hg2:((w.alloc (.cells #[.pointer (some t)] 111)).alloc (.cells #[.pointer (some ⟨9,111,none⟩),.pointer (some ⟨w.heap.size,0,none⟩),.int .u64 150] 153)).cell? ⟨1,0,none⟩=some (.iface 197 (.agg #[.pointer (some ⟨9,27,none⟩)])):=by
  rw[World.cell?_alloc_lt _ _ ⟨1,0,none⟩ (by simp<;>omega),World.cell?_alloc_lt _ _ ⟨1,0,none⟩ hlt];exact hg
 have htl:t.block<w.heap.size:=by
  rcases Nat.lt_or_ge t.block w.heap.size with h | h
  ·exact h
  ·simp[World.cell?,Array.getElem?_eq_none h]at ht0
 have el:=Tryz.elemVPP ⟨w.heap.size,0,none⟩ t (((w.alloc (.cells #[.pointer (some t)] 111)).alloc (.cells #[.pointer (some ⟨9,111,none⟩),.pointer (some ⟨w.heap.size,0,none⟩),.int .u64 150] 153)).alloc (.cells #[.pointer (some ⟨9,111,none⟩),.pointer (some ⟨w.heap.size,0,none⟩),.int .u64 150] 153)) (by rw[World.cell?_alloc_lt _ _ ⟨w.heap.size,0,none⟩ (by simp<;>omega)];simp)
 have st:=Tryz.setP t ⟨w.heap.size+1+1+1,0,none⟩ e old ((((w.alloc (.cells #[.pointer (some t)] 111)).alloc (.cells #[.pointer (some ⟨9,111,none⟩),.pointer (some ⟨w.heap.size,0,none⟩),.int .u64 150] 153)).alloc (.cells #[.pointer (some ⟨9,111,none⟩),.pointer (some ⟨w.heap.size,0,none⟩),.int .u64 150] 153)).alloc (.cells #[.pointer (some e)] 87))
  (by rw[World.cell?_alloc_at _ _ _ _ (by simp)];rfl)
  (by rw[World.cell?_alloc_lt _ _ t (by simp<;>omega),World.cell?_alloc_lt _ _ t (by simp<;>omega),World.cell?_alloc_lt _ _ t (by simp<;>omega),World.cell?_alloc_lt _ _ t htl];exact ht0)
  (by rw[World.frozen?_alloc_old _ _ t (by simp<;>omega),World.frozen?_alloc_old _ _ t (by simp<;>omega),World.frozen?_alloc_old _ _ t (by simp<;>omega),World.frozen?_alloc_old _ _ t (Nat.ne_of_lt htl)];exact hf0)
 go_enter Tryz.func52,Tryz.ntmps52
 go_wp2
 refine wp_loop_rounds 1 ?_
 rw[rounds_succ]
 go_wp2
 go_ret
 exact⟨rfl,rfl⟩
theorem as_spot (e:Addr)(b:Nat)(old:Value)(w:World)(hg:w.cell? ⟨1,0,none⟩=some (.iface 197 (.agg #[.pointer (some ⟨9,27,none⟩)])))(ht0:w.cell? ⟨b,0,none⟩=some old)(hf0:w.frozen? ⟨b,0,none⟩=false)(hb:b<w.heap.size):
 Calls Tryz.prog 52 #[.iface 87 (.pointer (some e)),.iface 111 (.pointer (some ⟨b,0,none⟩))] w fun ev w'=>ev= .returned (.bool true)∧w'.cell? ⟨b,0,none⟩=some (.pointer (some e))∧Below b w w'∧b<w'.heap.size:=by
 refine(as_hit e ⟨b,0,none⟩ old w hg ht0 hf0).mono ?_
 rintro ev w' ⟨rfl,rfl⟩
 have hA:Below w.heap.size w ((((w.alloc (.cells #[.pointer (some ⟨b,0,none⟩)] 111)).alloc (.cells #[.pointer (some ⟨9,111,none⟩),.pointer (some ⟨w.heap.size,0,none⟩),.int .u64 150] 153)).alloc (.cells #[.pointer (some ⟨9,111,none⟩),.pointer (some ⟨w.heap.size,0,none⟩),.int .u64 150] 153)).alloc (.cells #[.pointer (some e)] 87)):=by
  refine Below.alloc (Below.alloc (Below.alloc (Below.alloc (Below.refl _ _) ?_ _) ?_ _) ?_ _) ?_ _<;>simp<;>omega
 refine⟨rfl,World.cell?_setCell_same _ _ _ ((hA.cell (p:=⟨b,0,none⟩) hb).trans ht0),(hA.mono (Nat.le_of_lt hb)).setCell (p:=⟨b,0,none⟩) (Nat.le_refl _) _, ?_⟩
 rw[World.size_setCell]
 exact Nat.lt_of_lt_of_le hb hA.size
theorem Tryz.noIsP (v:Value)(xT:TypeId)(w:World):(Instr.typeAssert (.iface 87 v) xT 209 true).run Tryz.prog w= .ok (.tuple #[.nilIface,.bool false]) w:=run_typeAssert_lacksB Tryz.underlying209 (by kernel_rfl) (by kernel_rfl) v xT w
theorem Tryz.hasUnwrapP (v:Value)(xT:TypeId)(w:World):(Instr.typeAssert (.iface 87 v) xT 204 true).run Tryz.prog w= .ok (.tuple #[.iface 87 v,.bool true]) w:=run_typeAssert_hasB Tryz.underlying204 (by kernel_rfl) v xT w
theorem Tryz.methodUnwrapP (v:Value)(w:World):(Go.method 387 87 v "Unwrap").run Tryz.prog w= .ok (256,v) w:=by kernel_rfl
theorem is_spotcode (g:Nat)(k:Int)(w:World)(h1:w.cell? ⟨g,1,none⟩=some (.iface 50 (.int .i64 k))):
 Calls Tryz.prog 53 #[.iface 87 (.pointer (some ⟨g,0,none⟩)),.iface 50 (.int .i64 k)] w fun e w'=>e= .returned (.bool true)∧w'=w:=by
 have h8:= @run_callFunc_extern Tryz.prog 114 _ Extern.ReflectliteType.typeOf Tryz.func114 (by kernel_rfl) (by kernel_rfl) (by kernel_rfl) (by kernel_rfl)
 have h32:= @run_callFunc_extern Tryz.prog 262 _ (Extern.ReflectliteType.method fun t=>do Rtype.noPackHeld "Comparable" t;pure (.bool (←typeInfo t).comparable)) Tryz.func262 (by kernel_rfl) (by kernel_rfl) (by kernel_rfl) (by kernel_rfl)
 have hC:∀W,(callFunc 262 #[.agg #[.pointer (some ⟨9,50,none⟩)]]).run Tryz.prog W= .ok (.value (.bool true)) W:=fun W=>by rw[h32,Tryz.comparableC];rfl
 clear h32
 have tT:=Tryz.typeOfC
 have mR:=Tryz.methodComparable
 have nW:=Tryz.noIsP
 have uW:=Tryz.hasUnwrapP
 have mU:=Tryz.methodUnwrapP
 have heq:=Tryz.eqCode k k w
 have hkk:(k == k)=true:=by simp
 have hty:=run_eql_iface_types (P:=Tryz.prog) 87 50 (.pointer (some ⟨g,0,none⟩)) (.int .i64 k) Tryz.underlying27 (by decide) w
 go_enter Tryz.func53,Tryz.ntmps53
 go_wp2
 refine wp_loop_rounds 2 ?_
 rw[rounds_succ]
 go_wp2
 rw[rounds_succ]
 go_wp2
 go_ret
 exact⟨rfl,rfl⟩
end
section
def isDig (c:UInt8):Bool:=decide (48≤c.toNat) && decide (c.toNat≤57)
def isLet (c:UInt8):Bool:=decide (c.toNat=95) || (decide (97≤c.toNat) && decide (c.toNat≤122)) || (decide (65≤c.toNat) && decide (c.toNat≤90))
def isIn (c:UInt8):Bool:=isLet c || isDig c
def isBl (c:UInt8):Bool:=decide (c.toNat=32) || decide (c.toNat=9) || decide (c.toNat=10)
def notNl (c:UInt8):Bool:= !decide (c.toNat=10)
def runN (p:UInt8→Bool)(l:List UInt8):Nat:=(l.takeWhile p).length
theorem runN_nil (p:UInt8→Bool):runN p []=0:=rfl
theorem runN_cons (p:UInt8→Bool)(c:UInt8)(l:List UInt8):runN p (c :: l)=if p c then runN p l+1 else 0:=by
 unfold runN
 rw[List.takeWhile_cons]
 split<;>simp
theorem runN_le (p:UInt8→Bool)(l:List UInt8):runN p l≤l.length:=by
 induction l with
 | nil=>exact Nat.le_refl _
 | cons c l ih=>rw[runN_cons,List.length_cons];split<;>omega
theorem runN_lt {p:UInt8→Bool}{l:List UInt8}{k:Nat}(h:k<runN p l):∃hk:k<l.length,p l[k]=true:=by
 induction l generalizing k with
 | nil=>rw[runN_nil]at h;omega
 | cons c l ih=>
   rw[runN_cons]at h
   split at h
   ·next hc=>
    cases k with
    | zero=>exact⟨by simp,hc⟩
    | succ k=>obtain⟨h1,h2⟩:=ih (k:=k) (by omega);exact⟨by simp;omega,by simpa using h2⟩
   ·omega
theorem runN_at {p:UInt8→Bool}{l:List UInt8}(h:runN p l<l.length):p (l[runN p l])=false:=by
 induction l with
 | nil=>simp at h
 | cons c l ih=>
   have e:=runN_cons p c l
   by_cases hc:p c=true
   ·rw[if_pos hc]at e
    have h2:runN p l<l.length:=by rw[e]at h;simp at h;omega
    have:=ih h2
    simp only[e,List.getElem_cons_succ]
    exact this
   ·rw[if_neg hc]at e
    simp only[e,List.getElem_cons_zero]
    simpa using hc
theorem runN_is {p:UInt8→Bool}{l:List UInt8}{k:Nat}(hk:k≤l.length)(h1:∀j (h:j<l.length),j<k→p l[j]=true)(h2:∀h:k<l.length,p l[k]=false):runN p l=k:=by
 rcases Nat.lt_trichotomy (runN p l) k with h | h | h
 ·have:=runN_at (p:=p) (l:=l) (by omega)
  rw[h1 _ _ h]at this;cases this
 ·exact h
 ·obtain⟨a,b⟩:=runN_lt h
  rw[h2 a]at b;cases b
def wordN (l:List UInt8):Nat:=if runN isDig l > 0 then 0 else runN isIn l
theorem dig_pos {c:UInt8}{l:List UInt8}:0<runN isDig (c :: l)↔isDig c=true:=by
 rw[runN_cons];split<;>simp_all
theorem wordN_nil:wordN []=0:=rfl
theorem wordN_cons (c:UInt8)(l:List UInt8):wordN (c :: l)=if isLet c then runN isIn l+1 else 0:=by
 unfold wordN
 by_cases hd:isDig c=true
 ·rw[if_pos (dig_pos.2 hd)]
  have:isLet c=false:=by
   simp only[isDig,isLet,Bool.and_eq_true,decide_eq_true_eq]at hd⊢
   simp only[Bool.or_eq_false_iff,Bool.and_eq_false_iff,decide_eq_false_iff_not]
   omega
  rw[this];rfl
 ·rw[if_neg (fun h=>hd (dig_pos.1 h)),runN_cons]
  have:isIn c=isLet c:=by unfold isIn;simp only[Bool.not_eq_true]at hd;rw[hd,Bool.or_false]
  rw[this]
theorem wordN_le (l:List UInt8):wordN l≤l.length:=by
 unfold wordN;split
 ·omega
 ·exact runN_le _ _
def valD (l:List UInt8)(acc:Nat):Nat:=l.foldl (fun a c=>a*10+(c.toNat - 48)) acc
def allD (l:List UInt8):Prop:=∀c∈l,isDig c=true
theorem dig_in {c:UInt8}(h:isDig c=true):48≤c.toNat∧c.toNat≤57:=by
 simpa [isDig]using h
theorem valD_cons (c:UInt8)(l:List UInt8)(acc:Nat):valD (c :: l) acc=valD l (acc*10+(c.toNat - 48)):=by unfold valD;rw[List.foldl_cons]
theorem valD_ge (l:List UInt8)(acc:Nat):acc*10 ^ l.length≤valD l acc:=by
 induction l generalizing acc with
 | nil=>simp[valD]
 | cons c l ih=>
   rw[valD_cons,List.length_cons,Nat.pow_succ]
   have:=ih (acc*10+(c.toNat - 48))
   refine Nat.le_trans ?_ this
   rw[Nat.mul_comm (10 ^ l.length) 10,←Nat.mul_assoc]
   exact Nat.mul_le_mul_right _ (by omega)
theorem valD_lt (l:List UInt8)(acc:Nat)(h:allD l):valD l acc<(acc+1)*10 ^ l.length:=by
 induction l generalizing acc with
 | nil=>simp[valD]
 | cons c l ih=>
   rw[valD_cons,List.length_cons,Nat.pow_succ]
   have hc:=dig_in (h c (by simp))
   have:=ih (acc*10+(c.toNat - 48)) (fun x hx=>h x (by simp[hx]))
   refine Nat.lt_of_lt_of_le this ?_
   rw[Nat.mul_comm (10 ^ l.length) 10,←Nat.mul_assoc]
   exact Nat.mul_le_mul_right _ (by omega)
theorem valD_acc (l:List UInt8)(acc:Nat):acc≤valD l acc:=by
 have:=valD_ge l acc
 have h1:1≤10 ^ l.length:=Nat.one_le_pow _ _ (by omega)
 calc acc=acc*1:=by omega
  _≤acc*10 ^ l.length:=Nat.mul_le_mul_left _ h1
  _≤_:=this
theorem parse_small {l:List UInt8}{acc:Nat}(h:allD l)(hs:valD l acc<1000000000000000000):Lib.parseUint10 acc l= .ok (valD l acc):=by
 induction l generalizing acc with
 | nil=>rfl
 | cons c l ih=>
   have hc:=dig_in (h c (by simp))
   rw[valD_cons]at hs⊢
   have:=valD_acc l (acc*10+(c.toNat - 48))
   simp only[Lib.parseUint10]
   rw[if_pos hc,if_neg (by omega),if_neg (by omega)]
   exact ih (fun x hx=>h x (by simp[hx])) hs
theorem parse_ways {l:List UInt8}{acc:Nat}(h:allD l):Lib.parseUint10 acc l= .range∨Lib.parseUint10 acc l= .ok (valD l acc):=by
 induction l generalizing acc with
 | nil=>exact .inr rfl
 | cons c l ih=>
   simp only[Lib.parseUint10]
   rw[if_pos (dig_in (h c (by simp)))]
   split
   ·exact .inl rfl
   ·split
    ·exact .inl rfl
    ·exact ih (fun x hx=>h x (by simp[hx]))
def bigD (l:List UInt8):Bool:=decide (10<l.length) || (decide (l.length=10) && decide (1073741824<valD l 0))
def numBad (l:List UInt8)(glued:Bool):Bool:=(decide (1<l.length) && decide (l.head? =some 48)) || bigD l || glued
theorem allD_take (l:List UInt8):allD (l.take (runN isDig l)):=fun c hc=>by
 obtain⟨i,hi,rfl⟩:=List.getElem_of_mem hc
 rw[List.length_take]at hi
 rw[List.getElem_take]
 obtain⟨_,h⟩:=runN_lt (p:=isDig) (l:=l) (k:=i) (by omega)
 exact h
theorem atoi_digits {l:List UInt8}(h:allD l)(h0:l≠[]):(Lib.atoiAll l= .range∧1000000000000000000≤valD l 0)∨(Lib.atoiAll l= .ok (valD l 0)∧valD l 0<9223372036854775808):=by
 cases l with
 | nil=>exact absurd rfl h0
 | cons c r=>
   have hc:=dig_in (h c (by simp))
   have e1:¬(c.toNat=43∨c.toNat=45):=by omega
   have e2:¬c.toNat=45:=by omega
   have em:Lib.parseMag (c :: r)=Lib.parseUint10 0 (c :: r):=by unfold Lib.parseMag;rw[if_neg (by simp)]
   unfold Lib.atoiAll
   simp only[if_neg e1,em]
   by_cases hs:valD (c :: r) 0<1000000000000000000
   ·right
    rw[parse_small h hs]
    simp only[e2,not_false_eq_true,true_and,false_and,if_false]
    rw[if_neg (by omega)]
    exact⟨rfl,by omega⟩
   ·rcases parse_ways (acc:=0) h with hp | hp
    ·left;rw[hp];exact⟨rfl,by omega⟩
    ·rw[hp]
     simp only[e2,not_false_eq_true,true_and,false_and,if_false]
     by_cases hb:9223372036854775808≤valD (c :: r) 0
     ·left;rw[if_pos hb];exact⟨rfl,by omega⟩
     ·right;rw[if_neg hb];exact⟨rfl,by omega⟩
theorem bigD_val {l:List UInt8}(h:allD l)(h1:¬(1<l.length∧l.head? =some 48)):bigD l=decide (1073741824<valD l 0):=by
 unfold bigD
 by_cases hl:10<l.length
 ·have:1073741824<valD l 0:=by
   cases l with
   | nil=>simp at hl
   | cons c r=>
     have hc:=dig_in (h c (by simp))
     have hne:c.toNat≠48:=fun e=>h1 ⟨by omega,by
      simp only[List.head?_cons,Option.some.injEq]
      exact UInt8.toNat_inj.1 e⟩
     rw[valD_cons]
     have h2:=valD_ge r (0*10+(c.toNat - 48))
     have h3:10 ^ 10≤10 ^ r.length:=Nat.pow_le_pow_right (by omega) (by simp at hl;omega)
     have h4:1*10 ^ 10≤(0*10+(c.toNat - 48))*10 ^ r.length:=Nat.mul_le_mul (by omega) h3
     omega
  simp[hl,this]
 ·by_cases he:l.length=10
  ·simp[he]
  ·have h2:=valD_lt l 0 h
   have h3:10 ^ l.length≤10 ^ 9:=Nat.pow_le_pow_right (by omega) (by omega)
   have:¬ 1073741824<valD l 0:=by omega
   simp[hl,he,this]
end
section
def keysL:List (List UInt8):=[[112,114,111,99],[114,101,113,117,105,114,101,115],[101,110,115,117,114,101,115],[115,107,105,112],[112,117,116],[103,101,116],[110,101,119],[102,114,101,101],[105,102],[101,108,115,101],[119,104,105,108,101],[105,110,118,97,114,105,97,110,116],[97,115,115,101,114,116],[99,97,108,108],[116,114,117,101],[102,97,108,115,101],[101,109,112],[97,99,99],[112,116,115]]
def keyB (l:List UInt8):Bool:=keysL.contains l
def twosL:List (List UInt8):=[[58,61],[61,61],[33,61],[60,61],[38,38],[124,124]]
def onesL:List UInt8:=[40,41,123,125,91,93,44,59,46,43,45,42,60,33,38]
def opsL:List (List UInt8):=twosL ++ onesL.map (fun c=>[c])
def opN (l:List UInt8):Nat:=if twosL.contains (l.take 2) then 2 else match l with
 | []=>0
 | c :: _=>if onesL.contains c then 1 else 0
inductive Stp where
 | done
 | bad (c:Int)
 | skip (n:Nat)
 | tok (kind:Int) (n:Nat)
def glueB (l:List UInt8):Bool:=match l with
 | []=>false
 | c :: _=>isLet c
def numS (l:List UInt8):Stp:=if numBad (l.take (runN isDig l)) (glueB (l.drop (runN isDig l))) then .bad 5 else .tok 3 (runN isDig l)
def stp (l:List UInt8):Stp:=match l with
 | []=> .done
 | c :: r=>
   if isBl c then .skip 1
   else if c.toNat=47∧r.head? =some 47 then .skip (runN notNl l)
   else if 32<wordN l then .bad 2
   else if 0<wordN l then .tok (if keyB (l.take (wordN l)) then 2 else 1) (wordN l)
   else if 0<runN isDig l then numS l
   else if opN l=0 then .bad 10
   else .tok 4 (opN l)
structure Tok where
 kind:Int
 at':Nat
 text:ByteArray
inductive Res where
 | ok (l:List Tok)
 | bad (c:Int) (at':Nat)
def scanF:Nat→List UInt8→Nat→List Tok→Res
 | 0,_,_,ts=> .ok ts
 | f+1,l,i,ts=>match stp l with
   | .done=> .ok ts
   | .bad c=> .bad c i
   | .skip n=>scanF f (l.drop n) (i+n) ts
   | .tok k n=>scanF f (l.drop n) (i+n) (ts ++ [⟨k,i,⟨(l.take n).toArray⟩⟩])
def ScanEq (l:List UInt8)(i:Nat)(ts:List Tok)(R:Res):Prop:=∃f,l.length - i≤f∧scanF f (l.drop i) i ts=R
theorem ScanEq.start (l:List UInt8):ScanEq l 0 [] (scanF l.length l 0 []):=⟨l.length,by omega,by rw[List.drop_zero]⟩
theorem ScanEq.fin {l:List UInt8}{i:Nat}{ts:List Tok}{R:Res}(h:ScanEq l i ts R)(hi:l.length≤i):R= .ok ts:=by
 obtain⟨f,_,h⟩:=h
 rw[List.drop_eq_nil_of_le hi]at h
 cases f with
 | zero=>exact h.symm
 | succ f=>exact h.symm
theorem ScanEq.next {l:List UInt8}{i:Nat}{ts:List Tok}{R:Res}(h:ScanEq l i ts R)(hi:i<l.length):∃f,l.length - i≤f+1∧scanF (f+1) (l.drop i) i ts=R:=by
 obtain⟨f,hf,h⟩:=h
 cases f with
 | zero=>omega
 | succ f=>exact⟨f,hf,h⟩
theorem ScanEq.bad {l:List UInt8}{i:Nat}{ts:List Tok}{R:Res}(h:ScanEq l i ts R)(hi:i<l.length){c:Int}(hs:stp (l.drop i)= .bad c):R= .bad c i:=by
 obtain⟨f,_,h⟩:=h.next hi
 rw[scanF,hs]at h
 exact h.symm
theorem ScanEq.skip {l:List UInt8}{i:Nat}{ts:List Tok}{R:Res}(h:ScanEq l i ts R)(hi:i<l.length){n:Nat}(hs:stp (l.drop i)= .skip n)(hn:1≤n):ScanEq l (i+n) ts R:=by
 obtain⟨f,hf,h⟩:=h.next hi
 rw[scanF,hs]at h
 simp only[List.drop_drop]at h
 exact⟨f,by omega,h⟩
theorem ScanEq.tok {l:List UInt8}{i:Nat}{ts:List Tok}{R:Res}(h:ScanEq l i ts R)(hi:i<l.length){n:Nat}{k:Int}(hs:stp (l.drop i)= .tok k n)(hn:1≤n):ScanEq l (i+n) (ts ++ [⟨k,i,⟨((l.drop i).take n).toArray⟩⟩]) R:=by
 obtain⟨f,hf,h⟩:=h.next hi
 rw[scanF,hs]at h
 simp only[List.drop_drop]at h
 exact⟨f,by omega,h⟩
inductive Skips (l:List UInt8):Nat→Prop
 | start:Skips l 0
 | step {b n:Nat} (h:Skips l b) (hb:b<l.length) (hs:stp (l.drop b)= .skip n) (hn:1≤n):Skips l (b+n)
theorem stp_skip_le {l:List UInt8}{n:Nat}(h:stp l= .skip n):n≤l.length:=by
 cases l with
 | nil=>cases h
 | cons c r=>
   rw[stp]at h
   split at h
   ·cases h;simp
   ·split at h
    ·cases h;exact runN_le _ _
    ·repeat' split at h
     all_goals first | (cases h;done) | (unfold numS at h;split at h<;>cases h)
theorem Skips.le {l:List UInt8}{b:Nat}(h:Skips l b):b≤l.length:=by
 induction h with
 | start=>omega
 | step h hb hs hn ih=>have:=stp_skip_le hs;rw[List.length_drop]at this;omega
theorem ScanEq.skips {l:List UInt8}{i b:Nat}{ts:List Tok}{R:Res}(h:ScanEq l i ts R)(hi:i≤l.length)(hs:Skips (l.drop i) b):ScanEq l (i+b) ts R:=by
 induction hs with
 | start=>exact h
 | step hs hb he hn ih=>
   rw[List.length_drop]at hb
   rw[List.drop_drop]at he
   have:=ih.skip (by omega) he hn
   rw[Nat.add_assoc]at this
   exact this
theorem cons_of {l:List UInt8}{i:Nat}(hi:i<l.length):l.drop i=l[i] :: l.drop (i+1):=by rw[List.drop_eq_getElem_cons hi]
theorem Skips.blanks {l:List UInt8}{b:Nat}(h:Skips l b)(k:Nat)(hk:k≤runN isBl (l.drop b)):Skips l (b+k):=by
 induction k with
 | zero=>exact h
 | succ k ih=>
   obtain⟨h1,h2⟩:=runN_lt (p:=isBl) (l:=l.drop b) (k:=k) (by omega)
   rw[List.length_drop]at h1
   rw[List.getElem_drop]at h2
   refine Skips.step (b:=b+k) (n:=1) (ih (by omega)) (by omega) ?_ (Nat.le_refl _)
   rw[cons_of (i:=b+k) (by omega),stp,if_pos h2]
theorem notBl_slash {c:UInt8}(h:c.toNat=47):isBl c=false:=by simp[isBl,h]
theorem Skips.comment {l:List UInt8}{b:Nat}(h:Skips l b)(hb:b+1<l.length)(h0:(l[b]'(by omega)).toNat=47)(h1:(l[b+1]'hb).toNat=47):Skips l (b+runN notNl (l.drop b))∧1≤runN notNl (l.drop b):=by
 have hb2:b<l.length:=by omega
 have e:=cons_of (l:=l) (i:=b) hb2
 have e2:=cons_of (l:=l) (i:=b+1) hb
 have h1':l[b+1]'hb=47:=UInt8.toNat_inj.1 h1
 have hn:1≤runN notNl (l.drop b):=by
  rw[e,runN_cons,if_pos (by simp[notNl,h0])];omega
 refine⟨Skips.step h hb2 ?_ hn,hn⟩
 rw[e,stp,notBl_slash h0,if_neg (by simp),if_pos ⟨h0,by rw[e2,h1'];rfl⟩]
def NoSkip (l:List UInt8):Prop:=∀n,stp l≠ .skip n
theorem noSkip_of {l:List UInt8}(h0:runN isBl l=0)(h1:¬ ∃h:1<l.length,(l[0]'(by omega)).toNat=47∧(l[1]'h).toNat=47):NoSkip l:=fun n=>by
 cases l with
 | nil=>intro h;cases h
 | cons c r=>
   rw[runN_cons]at h0
   have hc:isBl c=false:=by
    cases hb:isBl c with
    | false=>rfl
    | true=>rw[if_pos hb]at h0;omega
   rw[stp,hc,if_neg (by simp)]
   have h2:¬(c.toNat=47∧r.head? =some 47):=fun⟨a,b⟩=>h1 (by
    cases r with
    | nil=>cases b
    | cons d r=>exact⟨by simp,a,by simp only[List.head?_cons,Option.some.injEq]at b;simp[b]⟩)
   rw[if_neg h2]
   repeat' split
   all_goals first | (intro h;cases h) | (unfold numS;split<;>(intro h;cases h))
end
section
theorem size_l (s:ByteArray):s.data.toList.length=s.size:=by rw[Array.length_toList];rfl
theorem get_l (s:ByteArray)(i:Nat)(h:i<s.size):s[i]'h=s.data.toList[i]'(by rw[size_l];exact h):=rfl
theorem get_bang (s:ByteArray)(i:Nat)(h:i<s.size):s.get! i=s[i]'h:=by
 simp[ByteArray.get!,getElem!_pos,h]
 rfl
theorem decode_bytes (s:ByteArray)(pos:Nat)(h:pos<s.size)(ha:128≤(s[pos]'h).toNat):pos+(Utf8.decode s pos).2≤s.size∧∀j,j<(Utf8.decode s pos).2→∀hj:pos+j<s.size,128≤(s[pos+j]'hj).toNat:=by
 have e0:s.get! (pos+0)=s[pos]'h:=get_bang s pos h
 have hn:¬(s[pos]'h).toNat<128:=by omega
 have w1:∀j,j<1→∀hj:pos+j<s.size,128≤(s[pos+j]'hj).toNat:=fun j hj h2=>by
  obtain rfl:j=0:=by omega
  exact ha
 have key:∀k,(decide (pos+k<s.size) && (s.get! (pos+k)).toNat / 64 == 2)=true→pos+k<s.size∧∀hj:pos+k<s.size,128≤(s[pos+k]'hj).toNat:=fun k hk=>by
  simp only[Bool.and_eq_true,decide_eq_true_eq,beq_iff_eq]at hk
  refine⟨hk.1,fun hj=> ?_⟩
  have h2:=hk.2
  rw[get_bang s _ hj]at h2
  omega
 simp only[Utf8.decode,e0,hn,if_false]
 split
 ·next hc=>
  rw[Bool.and_eq_true]at hc
  obtain⟨k1,k2⟩:=key 1 hc.2
  split
  ·refine⟨by simp only;omega,fun j hj h2=> ?_⟩
   simp only at hj
   rcases(by omega:j=0∨j=1)with rfl | rfl
   ·exact ha
   ·exact k2 _
  ·exact⟨by simp only;omega,w1⟩
 ·split
  ·next hc=>
   rw[Bool.and_eq_true,Bool.and_eq_true]at hc
   obtain⟨k1,k2⟩:=key 1 hc.1.2
   obtain⟨m1,m2⟩:=key 2 hc.2
   split
   ·refine⟨by simp only;omega,fun j hj h2=> ?_⟩
    simp only at hj
    rcases(by omega:j=0∨j=1∨j=2)with rfl | rfl | rfl
    ·exact ha
    ·exact k2 _
    ·exact m2 _
   ·exact⟨by simp only;omega,w1⟩
  ·split
   ·next hc=>
    rw[Bool.and_eq_true,Bool.and_eq_true,Bool.and_eq_true]at hc
    obtain⟨k1,k2⟩:=key 1 hc.1.1.2
    obtain⟨m1,m2⟩:=key 2 hc.1.2
    obtain⟨n1,n2⟩:=key 3 hc.2
    split
    ·refine⟨by simp only;omega,fun j hj h2=> ?_⟩
     simp only at hj
     rcases(by omega:j=0∨j=1∨j=2∨j=3)with rfl | rfl | rfl | rfl
     ·exact ha
     ·exact k2 _
     ·exact m2 _
     ·exact n2 _
    ·exact⟨by simp only;omega,w1⟩
   ·exact⟨by simp only;omega,w1⟩
structure RuneBy (q:Int→Bool)(p:UInt8→Bool):Prop where
 low:∀c:UInt8,c.toNat<128→q (c.toNat:Int)=p c
 high:∀(r:Int) (c:UInt8),128≤r→128≤c.toNat→q r=p c
theorem runN_ge {p:UInt8→Bool}{l:List UInt8}{k:Nat}(hk:k≤l.length)(h1:∀j (h:j<l.length),j<k→p l[j]=true):k≤runN p l:=by
 refine Classical.byContradiction fun h=> ?_
 have:=runN_at (p:=p) (l:=l) (by omega)
 rw[h1 _ _ (by omega)]at this;cases this
theorem run_stop {q:Int→Bool}{p:UInt8→Bool}(hq:RuneBy q p)(s:ByteArray)(pos:Nat)(h:pos<s.size)(hp:pos≤runN p s.data.toList)(hf:q ((Utf8.decode s pos).1:Nat)=false):runN p s.data.toList=pos:=by
 have hl:=size_l s
 have hpf:p (s[pos]'h)=false:=by
  by_cases ha:(s[pos]'h).toNat<128
  ·rw[decode_ascii s pos h ha]at hf
   rw[←hq.low _ ha];exact hf
  ·have:=decode_high s pos h (by omega)
   rw[←hq.high ((Utf8.decode s pos).1:Nat) _ (by omega) (by omega)];exact hf
 refine runN_is (by omega) (fun j hj hjk=> ?_) (fun _=>hpf)
 obtain⟨_,h2⟩:=runN_lt (p:=p) (l:=s.data.toList) (k:=j) (by omega)
 exact h2
theorem run_on {q:Int→Bool}{p:UInt8→Bool}(hq:RuneBy q p)(s:ByteArray)(pos:Nat)(h:pos<s.size)(hp:pos≤runN p s.data.toList)(hf:q ((Utf8.decode s pos).1:Nat)=true):pos+(Utf8.decode s pos).2≤runN p s.data.toList∧1≤(Utf8.decode s pos).2∧pos+(Utf8.decode s pos).2≤s.size:=by
 have hl:=size_l s
 by_cases ha:(s[pos]'h).toNat<128
 ·have e:=decode_ascii s pos h ha
  rw[e]at hf⊢
  refine⟨runN_ge (by simp only;omega) fun j hj hjk=> ?_,Nat.le_refl _,by simp only;omega⟩
  simp only at hjk
  by_cases hjp:j<pos
  ·obtain⟨_,h2⟩:=runN_lt (p:=p) (l:=s.data.toList) (k:=j) (by omega)
   exact h2
  ·obtain rfl:j=pos:=by omega
   have:=hq.low (s[j]'h) ha
   rw[←get_l s j h,←this];exact hf
 ·have hw:=decode_high s pos h (by omega)
  obtain⟨b1,b2⟩:=decode_bytes s pos h (by omega)
  refine⟨runN_ge (by omega) fun j hj hjk=> ?_,hw.2,b1⟩
  by_cases hjp:j<pos
  ·obtain⟨_,h2⟩:=runN_lt (p:=p) (l:=s.data.toList) (k:=j) (by omega)
   exact h2
  ·have hj2:j<s.size:=by omega
   obtain⟨d,rfl⟩:∃d,j=pos+d:=⟨j - pos,by omega⟩
   have h3:=b2 d (by omega) hj2
   rw[←get_l s (pos+d) hj2,←hq.high ((Utf8.decode s pos).1:Nat) _ (by omega) h3]
   exact hf
theorem run_fin {p:UInt8→Bool}(s:ByteArray)(pos:Nat)(h:¬pos<s.size)(hp:pos≤runN p s.data.toList):runN p s.data.toList=s.size:=by
 have:=runN_le p s.data.toList
 rw[size_l]at this
 omega
def qBl (r:Int):Bool:=decide (r=32) || decide (r=9) || decide (r=10)
def qDig (r:Int):Bool:=decide (48≤r) && decide (r≤57)
def qIn (r:Int):Bool:=(decide (97≤r) && decide (r≤122)) || (decide (65≤r) && decide (r≤90)) || decide (r=95) || qDig r
def qNl (r:Int):Bool:= !decide (r=10)
theorem byBl:RuneBy qBl isBl:=⟨fun c h=>by simp only[qBl,isBl];rw[Bool.eq_iff_iff];simp only[Bool.or_eq_true,decide_eq_true_eq];omega,fun r c h1 h2=>by simp only[qBl,isBl];rw[Bool.eq_iff_iff];simp only[Bool.or_eq_true,decide_eq_true_eq];omega⟩
theorem byDig:RuneBy qDig isDig:=⟨fun c h=>by simp only[qDig,isDig];rw[Bool.eq_iff_iff];simp only[Bool.and_eq_true,decide_eq_true_eq];omega,fun r c h1 h2=>by simp only[qDig,isDig];rw[Bool.eq_iff_iff];simp only[Bool.and_eq_true,decide_eq_true_eq];omega⟩
theorem byIn:RuneBy qIn isIn:=⟨fun c h=>by simp only[qIn,qDig,isIn,isLet,isDig];rw[Bool.eq_iff_iff];simp only[Bool.or_eq_true,Bool.and_eq_true,decide_eq_true_eq];omega,fun r c h1 h2=>by simp only[qIn,qDig,isIn,isLet,isDig];rw[Bool.eq_iff_iff];simp only[Bool.or_eq_true,Bool.and_eq_true,decide_eq_true_eq];omega⟩
theorem byNl:RuneBy qNl notNl:=⟨fun c h=>by simp only[qNl,notNl];rw[Bool.eq_iff_iff];simp only[Bool.not_eq_true',decide_eq_false_iff_not];omega,fun r c h1 h2=>by simp only[qNl,notNl];rw[Bool.eq_iff_iff];simp only[Bool.not_eq_true',decide_eq_false_iff_not];omega⟩
end
section
theorem keyB_hit {l:List UInt8}{i:Nat}(hi:i<keysL.length)(h:keysL[i]=l):keyB l=true:=by
 unfold keyB
 rw[List.contains_iff_mem,←h]
 exact List.getElem_mem hi
theorem keyB_miss {l:List UInt8}(h:∀i (hi:i<keysL.length),keysL[i]≠l):keyB l=false:=by
 unfold keyB
 rw[Bool.eq_false_iff,ne_eq,List.contains_iff_mem]
 intro hm
 obtain⟨i,hi,e⟩:=List.getElem_of_mem hm
 exact h i hi e
theorem twos_len:twosL.length=6:=rfl
theorem ones_len:onesL.length=15:=rfl
theorem ops_len:opsL.length=21:=rfl
theorem twos_two:∀x∈twosL,x.length=2:=by decide
theorem ops_two {i:Nat}(h:i<twosL.length)(h2:i<opsL.length):opsL[i]=twosL[i]:=by
 simp only[opsL];rw[List.getElem_append_left h]
theorem ops_one {i:Nat}(h:i<onesL.length)(h2:i+6<opsL.length):opsL[i+6]=[onesL[i]]:=by
 simp only[opsL]
 rw[List.getElem_append_right (by rw[twos_len];omega)]
 simp[twos_len]
theorem ops_1_2 {i:Nat}(h:i<opsL.length):1≤(opsL[i]).length∧(opsL[i]).length≤2:=by
 rcases Nat.lt_or_ge i 6 with h6 | h6
 ·rw[ops_two (by rw[twos_len];exact h6) h,twos_two _ (List.getElem_mem _)];omega
 ·obtain⟨k,rfl⟩:∃k,i=k+6:=⟨i - 6,by omega⟩
  rw[ops_one (by rw[ones_len];rw[ops_len]at h;omega) h];simp
theorem opN_two {l:List UInt8}(h:l.take 2∈twosL):opN l=2:=by
 unfold opN;rw[if_pos (List.contains_iff_mem.2 h)]
theorem opN_one {c:UInt8}{l:List UInt8}(h:(c :: l).take 2∉twosL)(h1:c∈onesL):opN (c :: l)=1:=by
 unfold opN
 rw[if_neg (fun e=>h (List.contains_iff_mem.1 e))]
 simp only[]
 rw[if_pos (List.contains_iff_mem.2 h1)]
theorem opN_none {c:UInt8}{l:List UInt8}(h:(c :: l).take 2∉twosL)(h1:c∉onesL):opN (c :: l)=0:=by
 unfold opN
 rw[if_neg (fun e=>h (List.contains_iff_mem.1 e))]
 simp only[]
 rw[if_neg (fun e=>h1 (List.contains_iff_mem.1 e))]
theorem not_two {l:List UInt8}{i:Nat}(h6:6≤i)(hno:∀j (h:j<opsL.length),j<i→l.take (opsL[j]).length≠opsL[j]):l.take 2∉twosL:=fun hm=>by
 obtain⟨j,hj,e⟩:=List.getElem_of_mem hm
 have hj2:j<opsL.length:=by rw[ops_len];rw[twos_len]at hj;omega
 refine hno j hj2 (by rw[twos_len]at hj;omega) ?_
 rw[ops_two hj hj2,twos_two _ (List.getElem_mem _),e]
theorem opN_hit {l:List UInt8}{i:Nat}(hi:i<opsL.length)(hp:l.take (opsL[i]).length=opsL[i])(hno:∀j (h:j<opsL.length),j<i→l.take (opsL[j]).length≠opsL[j]):opN l=(opsL[i]).length∧l.take (opN l)=opsL[i]:=by
 have key:opN l=(opsL[i]).length:=by
  rcases Nat.lt_or_ge i 6 with h6 | h6
  ·have e:=ops_two (by rw[twos_len];exact h6) hi
   rw[e,twos_two _ (List.getElem_mem _)]at hp
   rw[e,twos_two _ (List.getElem_mem _)]
   exact opN_two (by rw[hp];exact List.getElem_mem _)
  ·have hn:=not_two h6 hno
   obtain⟨k,rfl⟩:∃k,i=k+6:=⟨i - 6,by omega⟩
   have hk:k<onesL.length:=by rw[ones_len];rw[ops_len]at hi;omega
   rw[ops_one hk hi]at hp
   rw[ops_one hk hi]
   cases l with
   | nil=>cases hp
   | cons c r=>
     simp only[List.length_cons,List.length_nil,Nat.zero_add,List.take_succ_cons,List.take_zero,List.cons.injEq,and_true]at hp
     exact opN_one hn (by rw[hp];exact List.getElem_mem _)
 exact⟨key,by rw[key];exact hp⟩
theorem opN_miss {l:List UInt8}(hno:∀j (h:j<opsL.length),l.take (opsL[j]).length≠opsL[j]):opN l=0:=by
 cases l with
 | nil=>rfl
 | cons c r=>
   refine opN_none (not_two (i:=21) (by omega) (fun j h _=>hno j h)) (fun hm=> ?_)
   obtain⟨k,hk,e⟩:=List.getElem_of_mem hm
   have hk2:k+6<opsL.length:=by rw[ops_len];rw[ones_len]at hk;omega
   refine hno (k+6) hk2 ?_
   rw[ops_one hk hk2]
   simp[e]
theorem opN_len (l:List UInt8):opN l≤l.length:=by
 unfold opN
 split
 ·next h=>
  have:=twos_two _ (List.contains_iff_mem.1 h)
  rw[List.length_take]at this;omega
 ·split
  ·omega
  ·split<;>simp
theorem stp_word {l:List UInt8}(hs:NoSkip l)(h:0<wordN l):stp l=if 32<wordN l then .bad 2 else .tok (if keyB (l.take (wordN l)) then 2 else 1) (wordN l):=by
 cases l with
 | nil=>rw[wordN_nil]at h;omega
 | cons c r=>
   have h1:isBl c=false:=by
    cases hb:isBl c with
    | false=>rfl
    | true=>exact absurd (by rw[stp,if_pos hb]) (hs 1)
   have h2:¬(c.toNat=47∧r.head? =some 47):=fun hc=>absurd (by rw[stp,h1,if_neg (by simp),if_pos hc]) (hs (runN notNl (c :: r)))
   rw[stp,h1,if_neg (by simp),if_neg h2,if_pos h]
theorem stp_num {l:List UInt8}(hs:NoSkip l)(h:wordN l=0)(h2:0<runN isDig l):stp l=numS l:=by
 cases l with
 | nil=>rw[runN_nil]at h2;omega
 | cons c r=>
   have h1:isBl c=false:=by
    cases hb:isBl c with
    | false=>rfl
    | true=>exact absurd (by rw[stp,if_pos hb]) (hs 1)
   have h3:¬(c.toNat=47∧r.head? =some 47):=fun hc=>absurd (by rw[stp,h1,if_neg (by simp),if_pos hc]) (hs (runN notNl (c :: r)))
   rw[stp,h1,if_neg (by simp),if_neg h3,if_neg (by omega),if_neg (by omega),if_pos h2]
theorem stp_op {l:List UInt8}(hne:l≠[])(hs:NoSkip l)(h:wordN l=0)(h2:runN isDig l=0):stp l=if opN l=0 then .bad 10 else .tok 4 (opN l):=by
 cases l with
 | nil=>exact absurd rfl hne
 | cons c r=>
   have h1:isBl c=false:=by
    cases hb:isBl c with
    | false=>rfl
    | true=>exact absurd (by rw[stp,if_pos hb]) (hs 1)
   have h3:¬(c.toNat=47∧r.head? =some 47):=fun hc=>absurd (by rw[stp,h1,if_neg (by simp),if_pos hc]) (hs (runN notNl (c :: r)))
   rw[stp,h1,if_neg (by simp),if_neg h3,if_neg (by omega),if_neg (by omega),if_neg (by omega)]
end
section
open Go.RowKit
theorem blank_any (r:Int)(w:World):Calls Tryz.prog 75 #[.int .i32 r] w fun e w'=>e= .returned (.bool (qBl r))∧w=w':=by
 unfold qBl
 by_cases h1:r=32
 ·subst h1
  go_enter Tryz.func75,Tryz.ntmps75
  go_wp2
  go_ret
  exact⟨rfl,rfl⟩
 ·have e1:(r == 32)=false:=by simpa using h1
  by_cases h2:r=9
  ·subst h2
   go_enter Tryz.func75,Tryz.ntmps75
   go_wp2
   go_ret
   exact⟨rfl,rfl⟩
  ·have e2:(r == 9)=false:=by simpa using h2
   have e3:(r == 10)=decide (r=10):=by rw[Bool.eq_iff_iff];simp
   have E3:=Lib.hid e3
   have E4:Hid ((decide (r=32) || decide (r=9) || decide (r=10))=(r == 10)):=by
    show _=_
    rw[decide_eq_false h1,decide_eq_false h2,e3];rfl
   clear e3 h1 h2
   go_enter Tryz.func75,Tryz.ntmps75
   go_wp2
   go_ret
   exact⟨by rw[E4.out];rfl,rfl⟩
theorem notnl_any (r:Int)(w:World):Calls Tryz.prog 76 #[.int .i32 r] w fun e w'=>e= .returned (.bool (qNl r))∧w=w':=by
 have E:Hid (qNl r=(r != 10)):=by
  show _=_
  unfold qNl;rw[Bool.eq_iff_iff];simp
 go_enter Tryz.func76,Tryz.ntmps76
 go_wp2
 go_ret
 exact⟨by rw[E.out];rfl,rfl⟩
theorem digit_any (r:Int)(w:World):Calls Tryz.prog 79 #[.int .i32 r] w fun e w'=>e= .returned (.bool (qDig r))∧w=w':=by
 unfold qDig
 by_cases h1:48≤r
 ·have e1:decide (48≤r)=true:=by simpa using h1
  have E:Hid ((decide (48≤r) && decide (r≤57))=decide (r≤57)):=by show _=_;rw[e1];rfl
  go_enter Tryz.func79,Tryz.ntmps79
  go_wp2
  go_ret
  exact⟨by rw[E.out];rfl,rfl⟩
 ·have e1:decide (48≤r)=false:=by simpa using h1
  go_enter Tryz.func79,Tryz.ntmps79
  go_wp2
  go_ret
  exact⟨rfl,rfl⟩
theorem inner_any (r:Int)(w:World):Calls Tryz.prog 81 #[.int .i32 r] w fun e w'=>e= .returned (.bool (qIn r))∧w=w':=by
 have HD:=Lib.hid (fun W=>digit_any r W)
 have e97:(decide (97≤r)=true∨decide (97≤r)=false):=by cases decide (97≤r)<;>simp
 have e122:(decide (r≤122)=true∨decide (r≤122)=false):=by cases decide (r≤122)<;>simp
 have e65:(decide (65≤r)=true∨decide (65≤r)=false):=by cases decide (65≤r)<;>simp
 have e90:(decide (r≤90)=true∨decide (r≤90)=false):=by cases decide (r≤90)<;>simp
 have e95:((r == 95)=true∨(r == 95)=false):=by cases (r == 95)<;>simp
 have q95:decide (r=95)=(r == 95):=by rw[Bool.eq_iff_iff];simp
 have E:Hid (qIn r=((decide (97≤r) && decide (r≤122)) || (decide (65≤r) && decide (r≤90)) || (r == 95) || qDig r)):=by
  show _=_
  unfold qIn;rw[q95]
 clear q95
 generalize qDig r=d at HD E
 have go:∀(b1 b2 b3 b4 b5:Bool),decide (97≤r)=b1→decide (r≤122)=b2→decide (65≤r)=b3→decide (r≤90)=b4→(r == 95)=b5→Calls Tryz.prog 81 #[.int .i32 r] w fun e w'=>e= .returned (.bool ((b1 && b2) || (b3 && b4) || b5 || d))∧w=w':=fun b1 b2 b3 b4 b5 h1 h2 h3 h4 h5=>by
  clear E e97 e122 e65 e90 e95
  cases b1<;>cases b2<;>cases b3<;>cases b4<;>cases b5
  all_goals
   go_enter Tryz.func81,Tryz.ntmps81
   first
    | (go_wp2;go_ret;exact⟨rfl,rfl⟩)
    | (go_wp2_with fail;refine(HD.out _).mono ?_;rintro e w1 ⟨rfl,rfl⟩;go_wp2;go_ret;exact⟨rfl,rfl⟩)
 rw[E.out]
 exact go _ _ _ _ _ rfl rfl rfl rfl rfl
theorem run_any (g:Nat)(q:Int→Bool)(p:UInt8→Bool)(hq:RuneBy q p)(eg:∀args w,(callFunc g args).run Tryz.prog w= .ok (.enter g args) w)(hf:∀r W,Calls Tryz.prog g #[.int .i32 r] W fun e w'=>e= .returned (.bool (q r))∧W=w')(s:ByteArray)(w:World):
 Calls Tryz.prog 74 #[.string s,.func (.func g) #[] #[]] w fun e w'=>e= .returned (.int .i64 (runN p s.data.toList))∧Below w.heap.size w w':=by
 have HS:=Lib.hid (run_stop hq s)
 have HO:=Lib.hid (run_on hq s)
 have HE:=Lib.hid (run_fin (p:=p) s)
 have HF:=Lib.hid hf
 have HB:=Lib.hid (fun pos=>(show Below w.heap.size w (w.iter s pos) from(Below.refl _ w).alloc (Nat.le_refl _) _))
 clear hq hf
 generalize runN p s.data.toList=N at HS HO HE
 go_enter Tryz.func74,Tryz.ntmps74
 go_wp2
 go_loopw [5] (fun _ wr=>∃pos:Nat,wr=w.iter s pos∧pos≤N) (fun _ wr=>s.size - wr.iterPos w.heap.size)
 case atStart=>exact⟨0,rfl,Nat.zero_le _⟩
 case round=>
  obtain⟨pos,rfl,hp⟩:=hrel
  by_cases hlt:pos<s.size
  ·have hnx:∀ty,(Instr.next (.pointer (some ⟨w.heap.size,0,none⟩)) true ty).run Tryz.prog (w.iter s pos)=_:=fun ty=>run_next_any w s pos ty hlt
   have HC:=Lib.hid (HF.out ((Utf8.decode s pos).1:Nat) (w.iter s (pos+(Utf8.decode s pos).2)))
   have HS1:=Lib.hid (HS.out pos hlt hp)
   have HO1:=Lib.hid (HO.out pos hlt hp)
   cases hv:q ((Utf8.decode s pos).1:Nat)with
   | true=>
     have HC2:Hid (Calls Tryz.prog g #[.int .i32 ((Utf8.decode s pos).1:Nat)] (w.iter s (pos+(Utf8.decode s pos).2)) fun e w'=>e= .returned (.bool true)∧w.iter s (pos+(Utf8.decode s pos).2)=w'):=by
      show Calls _ _ _ _ _
      rw[←hv];exact HC.out
     obtain⟨h1,h2,h3⟩:=HO1.out hv
     clear hv HC HS1 HO1
     go_wp2_with fail
     refine HC2.out.mono ?_
     rintro e w1 ⟨rfl,rfl⟩
     go_wp2_with fail
     go_roundw
     case rel=>exact⟨_,rfl,h1⟩
     case measure=>simp;omega
   | false=>
     have HC2:Hid (Calls Tryz.prog g #[.int .i32 ((Utf8.decode s pos).1:Nat)] (w.iter s (pos+(Utf8.decode s pos).2)) fun e w'=>e= .returned (.bool false)∧w.iter s (pos+(Utf8.decode s pos).2)=w'):=by
      show Calls _ _ _ _ _
      rw[←hv];exact HC.out
     obtain rfl:=HS1.out hv
     clear hv HC HS1 HO1
     go_wp2_with fail
     refine HC2.out.mono ?_
     rintro e w1 ⟨rfl,rfl⟩
     go_wp2_with fail
     go_ret
     exact⟨rfl,HB.out _⟩
  ·have hnx:∀ty,(Instr.next (.pointer (some ⟨w.heap.size,0,none⟩)) true ty).run Tryz.prog (w.iter s pos)=_:=fun ty=>run_next_end w s pos ty hlt
   obtain rfl:=HE.out pos hlt hp
   go_wp2
   go_ret
   exact⟨rfl,HB.out _⟩
theorem rdigit_run (s:ByteArray)(w:World):Calls Tryz.prog 74 #[.string s,.func (.func 79) #[] #[]] w fun e w'=>e= .returned (.int .i64 (runN isDig s.data.toList))∧Below w.heap.size w w':=
 run_any _ qDig isDig byDig (enters_of Tryz.func79 (by kernel_rfl) rfl) (fun r W=>digit_any r W) s w
theorem rinner_run (s:ByteArray)(w:World):Calls Tryz.prog 74 #[.string s,.func (.func 81) #[] #[]] w fun e w'=>e= .returned (.int .i64 (runN isIn s.data.toList))∧Below w.heap.size w w':=
 run_any _ qIn isIn byIn (enters_of Tryz.func81 (by kernel_rfl) rfl) (fun r W=>inner_any r W) s w
theorem rblank_run (s:ByteArray)(w:World):Calls Tryz.prog 74 #[.string s,.func (.func 75) #[] #[]] w fun e w'=>e= .returned (.int .i64 (runN isBl s.data.toList))∧Below w.heap.size w w':=
 run_any _ qBl isBl byBl (enters_of Tryz.func75 (by kernel_rfl) rfl) (fun r W=>blank_any r W) s w
theorem rnotnl_run (s:ByteArray)(w:World):Calls Tryz.prog 74 #[.string s,.func (.func 76) #[] #[]] w fun e w'=>e= .returned (.int .i64 (runN notNl s.data.toList))∧Below w.heap.size w w':=
 run_any _ qNl notNl byNl (enters_of Tryz.func76 (by kernel_rfl) rfl) (fun r W=>notnl_any r W) s w
theorem word_any (s:ByteArray)(w:World):Calls Tryz.prog 77 #[.string s] w fun e w'=>e= .returned (.int .i64 (wordN s.data.toList))∧Below w.heap.size w w':=by
 have HD:=Lib.hid (fun W=>rdigit_run s W)
 have HI:=Lib.hid (fun W=>rinner_run s W)
 unfold wordN
 by_cases h:0<runN isDig s.data.toList
 ·rw[if_pos h]
  have hi:(0:Int)<(runN isDig s.data.toList:Int):=by omega
  generalize runN isDig s.data.toList=N at*
  go_enter Tryz.func77,Tryz.ntmps77
  go_wp2_with fail
  refine(HD.out _).mono ?_
  rintro e w1 ⟨rfl,hb⟩
  go_wp2_with fail
  go_ret
  exact⟨rfl,hb⟩
 ·rw[if_neg h]
  have hi:¬(0:Int)<(runN isDig s.data.toList:Int):=by omega
  generalize runN isDig s.data.toList=N at*
  go_enter Tryz.func77,Tryz.ntmps77
  go_wp2_with fail
  refine(HD.out _).mono ?_
  rintro e w1 ⟨rfl,hb⟩
  have HB:=Lib.hid hb
  clear hb
  go_wp2_with fail
  refine(HI.out _).mono ?_
  rintro e w2 ⟨rfl,hb2⟩
  have HB2:=Lib.hid (HB.out.trans (hb2.mono HB.out.size))
  clear hb2
  go_wp2_with fail
  go_ret
  exact⟨rfl,HB2.out⟩
end
end Go.Proofs.YtcinokljkieijaaGreatDoor
