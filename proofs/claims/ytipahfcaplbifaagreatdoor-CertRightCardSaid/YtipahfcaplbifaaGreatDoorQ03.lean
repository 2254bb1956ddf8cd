/- Parts of a proof. -/
import Derived.Test.YtipahfcaplbifaaGreatDoorProg
import Derived.WalkKit
import Derived.LaidEql
import Derived.Stop.Asserts
import Derived.RowKitTokens
set_option linter.unusedVariables false
set_option linter.unusedSimpArgs false
set_option maxHeartbeats 60000000
set_option maxRecDepth 100000
namespace Go.Proofs.YtipahfcaplbifaaGreatDoor
namespace Prp
open Go.RowKit Go.Extern.Stop Go.Stop Go.Extern
theorem Tryz.valueOfPP (t:Addr)(w:World):(ReflectliteValue.unpack (.iface 94 (.pointer (some t)))).run Tryz.prog w
  = .ok (.agg #[.pointer (some ⟨4,94,none⟩),.pointer (some ⟨w.heap.size,0,none⟩),.int .u64 150]) (w.alloc (.cells #[.pointer (some t)] 94)):=by kernel_rfl
theorem Tryz.typePP (a:Addr)(w:World):(ReflectliteValue.methodAny (ReflectliteValue.valueError "reflectlite.Value.Type" 0) (fun t _ _ _=>ReflectliteType.toType t) #[.agg #[.pointer (some ⟨4,94,none⟩),.pointer (some a),.int .u64 150]]).run Tryz.prog w
  = .ok (.iface 162 (.agg #[.pointer (some ⟨4,94,none⟩)])) w:=by kernel_rfl
theorem Tryz.methodKind (h:Value)(w:World):(Go.method 376 162 (.agg #[h]) "Kind").run Tryz.prog w= .ok (203,h) w:=by kernel_rfl
theorem Tryz.kindPP (w:World):((ReflectliteType.abiMethod fun t=>(fun a:Nat=>Value.int IntKind.u8 (a:Int)) <$> Rtype.kind t) #[.pointer (some ⟨4,94,none⟩)]).run Tryz.prog w= .ok (.int .u8 22) w:=by kernel_rfl
theorem Tryz.kindP (w:World):((ReflectliteType.abiMethod fun t=>(fun a:Nat=>Value.int IntKind.u8 (a:Int)) <$> Rtype.kind t) #[.pointer (some ⟨4,76,none⟩)]).run Tryz.prog w= .ok (.int .u8 22) w:=by kernel_rfl
theorem rlm (z:Sem Value)(f:TypeId→Addr→Nat→Nat→Sem Value)(v:Value):
  ReflectliteValue.method z f #[v]=(do match←ReflectliteValue.parts v with | none=>z | some (t,a,fl)=>f t a fl (fl % 32)):=rfl
theorem Tryz.partsPP (a:Addr)(w:World):(ReflectliteValue.parts (.agg #[.pointer (some ⟨4,94,none⟩),.pointer (some a),.int .u64 150])).run Tryz.prog w= .ok (some (94,a,150)) w:=by kernel_rfl
theorem Tryz.isNilPP (a p:Addr)(W:World)(ha:W.cell? a=some (.pointer (some p))):
  (ReflectliteValue.method (ReflectliteValue.valueError "reflectlite.Value.IsNil" 0) ReflectliteValue.isNil #[.agg #[.pointer (some ⟨4,94,none⟩),.pointer (some a),.int .u64 150]]).run Tryz.prog W= .ok (.bool false) W:=by
 rw[rlm]
 simp only[Sem.run_bind,Tryz.partsPP,Result.andThen]
 simp[ReflectliteValue.isNil,loadVar,isAgg,underlying,Tryz.underlying94,ha,Result.andThen]
theorem Tryz.methodElem (h:Value)(w:World):(Go.method 376 162 (.agg #[h]) "Elem").run Tryz.prog w= .ok (215,.agg #[h]) w:=by kernel_rfl
theorem Tryz.methodImplements (h:Value)(w:World):(Go.method 376 162 (.agg #[h]) "Implements").run Tryz.prog w= .ok (216,.agg #[h]) w:=by kernel_rfl
theorem Tryz.methodAssignableTo (h:Value)(w:World):(Go.method 376 162 (.agg #[h]) "AssignableTo").run Tryz.prog w= .ok (213,.agg #[h]) w:=by kernel_rfl
theorem Tryz.methodComparable (h:Value)(w:World):(Go.method 376 162 (.agg #[h]) "Comparable").run Tryz.prog w= .ok (214,.agg #[h]) w:=by kernel_rfl
theorem Tryz.elemPP (w:World):(ReflectliteType.method ReflectliteType.elem #[.agg #[.pointer (some ⟨4,94,none⟩)]]).run Tryz.prog w= .ok (.iface 162 (.agg #[.pointer (some ⟨4,76,none⟩)])) w:=by kernel_rfl
theorem Tryz.implementsP (w:World):(ReflectliteType.relation "Implements" ReflectliteType.implements_ #[.agg #[.pointer (some ⟨4,76,none⟩)],.iface 162 (.agg #[.pointer (some ⟨4,26,none⟩)])]).run Tryz.prog w= .ok (.bool true) w:=by kernel_rfl
theorem Tryz.typeOfP (v:Value)(w:World):(ReflectliteType.typeOf #[.iface 76 v]).run Tryz.prog w= .ok (.iface 162 (.agg #[.pointer (some ⟨4,76,none⟩)])) w:=by kernel_rfl
theorem Tryz.typeOfC (v:Value)(w:World):(ReflectliteType.typeOf #[.iface 60 v]).run Tryz.prog w= .ok (.iface 162 (.agg #[.pointer (some ⟨4,60,none⟩)])) w:=by kernel_rfl
theorem Tryz.comparableC (w:World):((ReflectliteType.method fun t=>do Rtype.noPackHeld "Comparable" t;pure (.bool (←typeInfo t).comparable)) #[.agg #[.pointer (some ⟨4,60,none⟩)]]).run Tryz.prog w= .ok (.bool true) w:=by kernel_rfl
theorem Tryz.assignableP (w:World):(ReflectliteType.relation "AssignableTo" ReflectliteType.assignableTo #[.agg #[.pointer (some ⟨4,76,none⟩)],.iface 162 (.agg #[.pointer (some ⟨4,76,none⟩)])]).run Tryz.prog w= .ok (.bool true) w:=by kernel_rfl
theorem Tryz.valueOfP (e:Addr)(w:World):(ReflectliteValue.unpack (.iface 76 (.pointer (some e)))).run Tryz.prog w
  = .ok (.agg #[.pointer (some ⟨4,76,none⟩),.pointer (some ⟨w.heap.size,0,none⟩),.int .u64 150]) (w.alloc (.cells #[.pointer (some e)] 76)):=by kernel_rfl
theorem Tryz.elemOfPP (w:World):(Rtype.elem? 94).run Tryz.prog w= .ok (some 76) w:=by kernel_rfl
theorem Tryz.mkP (p:Addr)(w:World):(ReflectliteValue.mk 76 p ReflectliteValue.flagAddr).run Tryz.prog w= .ok (.agg #[.pointer (some ⟨4,76,none⟩),.pointer (some p),.int .u64 406]) w:=by kernel_rfl
theorem Tryz.elemVPP (a p:Addr)(W:World)(ha:W.cell? a=some (.pointer (some p))):
  (ReflectliteValue.method (ReflectliteValue.valueError "reflectlite.Value.Elem" 0) ReflectliteValue.elem #[.agg #[.pointer (some ⟨4,94,none⟩),.pointer (some a),.int .u64 150]]).run Tryz.prog W
   = .ok (.agg #[.pointer (some ⟨4,76,none⟩),.pointer (some p),.int .u64 406]) W:=by
 rw[rlm]
 simp only[Sem.run_bind,Tryz.partsPP,Result.andThen]
 simp[ReflectliteValue.elem,loadVar,isAgg,underlying,Tryz.underlying94,ha,Result.andThen,Tryz.elemOfPP,Tryz.mkP]
theorem rls (v x:Value):ReflectliteValue.set #[v,x]=(do
  let (some (dst,a,fl),some (src,b,_)):=(←ReflectliteValue.parts v,←ReflectliteValue.parts x)
   | unsupported (.noEntry "extern/(internal/reflectlite.Value).Set.zeroValue")
  if fl / ReflectliteValue.flagAddr % 2 == 0 then unsupported (.noEntry "extern/(internal/reflectlite.Value).Set.unaddressable")
  let val←loadVar src b
  if←Rtype.directlyAssignable dst src then storeVar dst a val
  else if←Rtype.implements dst src then
   if(←Rtype.kind src) == 20 then
    match val with
    | .nilIface=>unsupported (.noEntry "extern/reflectlite: a nil value of one interface type handed on as a value of another")
    | _=>storeVar dst a val
   else storeVar dst a (.iface src val)
  else panicString ("reflectlite.Set: value of type " ++ (←Rtype.spelt src) ++ " is not assignable to type " ++ (←Rtype.spelt dst))
  pure (.tuple #[])):=rfl
theorem Tryz.partsPa (a:Addr)(w:World):(ReflectliteValue.parts (.agg #[.pointer (some ⟨4,76,none⟩),.pointer (some a),.int .u64 406])).run Tryz.prog w= .ok (some (76,a,406)) w:=by kernel_rfl
theorem Tryz.partsP (a:Addr)(w:World):(ReflectliteValue.parts (.agg #[.pointer (some ⟨4,76,none⟩),.pointer (some a),.int .u64 150])).run Tryz.prog w= .ok (some (76,a,150)) w:=by kernel_rfl
theorem Tryz.directP (w:World):(Rtype.directlyAssignable 76 76).run Tryz.prog w= .ok true w:=by kernel_rfl
theorem Tryz.setP (ta b e:Addr)(old:Value)(W:World)(hb:W.cell? b=some (.pointer (some e)))(ht:W.cell? ta=some old)(hf:W.frozen? ta=false):
  (ReflectliteValue.set #[.agg #[.pointer (some ⟨4,76,none⟩),.pointer (some ta),.int .u64 406],.agg #[.pointer (some ⟨4,76,none⟩),.pointer (some b),.int .u64 150]]).run Tryz.prog W
   = .ok (.tuple #[]) (W.setCell ta (.pointer (some e))):=by
 rw[rls]
 simp only[Sem.run_bind,Tryz.partsPa,Tryz.partsP,Result.andThen]
 simp[ReflectliteValue.flagAddr,loadVar,isAgg,underlying,Tryz.underlying76,hb,Result.andThen,Tryz.directP,storeVar,Value.cells,storeCells,Addr.add]
 rw[run_store Tryz.prog W ta _ _ (by rfl)]
 simp[ht,hf]
end Prp
end Go.Proofs.YtipahfcaplbifaaGreatDoor
