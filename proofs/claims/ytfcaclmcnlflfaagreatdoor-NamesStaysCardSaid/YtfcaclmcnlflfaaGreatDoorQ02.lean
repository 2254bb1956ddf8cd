/- Parts of a proof. -/
import Derived.WalkKit
import Derived.Below
import Derived.Lib.Hide
import Derived.Test.YtfcaclmcnlflfaaGreatDoorProg
import Derived.LaidEql
import Derived.Stop.Asserts
import Derived.RowKitTokens
set_option linter.unusedVariables false
set_option linter.unusedSimpArgs false
set_option maxHeartbeats 60000000
set_option maxRecDepth 100000
namespace Go.Proofs.YtfcaclmcnlflfaaGreatDoor
section
open Go.RowKit
section
variable {P:Program}
theorem run_loadVar_list (w:World)(a:Addr)(ty:TypeId)(cs:List Value)(d:TypeDesc)(hc:∀j v,cs[j]? =some v→w.cell? (a.add j)=some v)
 (hu:P.underlying ty=some d) (hd:(match d with | .struct _ | .array _ _=>true | _=>false)=true) (hi:(P.info? ty).map (·.size)=some cs.length):
 (loadVar ty a).run P w= .ok (.agg cs.toArray) w:=by
 have hl:(loadCells a cs.length).run P w= .ok cs.toArray w:=run_loadCells_list (P:=P) w a cs hc
 cases hq:P.info? ty with
 | none=>simp[hq]at hi
 | some i=>
   have hs:i.size=cs.length:=by simpa [hq]using hi
   have hagg:(isAgg ty).run P w= .ok true w:=by
    unfold isAgg
    rw[Sem.run_bind,run_underlying hu w]
    cases d<;>simp_all
   simp[loadVar,Sem.run_bind,hagg,sizeOf,typeInfo,hq,hs,hl]
theorem wpList_load_list {ops:Array Oper}{rest:List Oper}{o:Oper}{a:Act}{w:World}{Q:Exit→Act→World→Prop}(hgd:o.guard=none)(ty:TypeId)(x:Operand)(ho:o.op= .load ty x)
 (g:Addr) (hx:a.eval x= .pointer (some g)) (cs:List Value) (d:TypeDesc) (hc:∀j v,cs[j]? =some v→w.cell? (g.add j)=some v)
 (hu:P.underlying ty=some d) (hd:(match d with | .struct _ | .array _ _=>true | _=>false)=true) (hi:(P.info? ty).map (·.size)=some cs.length)
 (h:wpList P ops Q rest (a.put o.dst (.agg cs.toArray)) w):wpList P ops Q (o :: rest) a w:=
 wpList_plain hgd fun _ hK=>by
  unfold Oper.wp execOp
  simp only[ho,hx,Instr.loadAt,Instr.sureAddr,Sem.run_bind,Sem.run_pure,Result.andThen_ok,run_loadVar_list w g ty cs d hc hu hd hi]
  exact hK _ _ h
theorem run_index_list (w:World)(t e:TypeId)(n:Nat)(vs:List Value)(i:Nat)(v:Value)(h:P.underlying t=some (.array n e))(hn:i<n)(hv:vs[i]? =some v)(he:P.underlying e=some .string)(hi:(P.info? e).map (·.size)=some 1):
 (Instr.index t (.agg vs.toArray) (.int .i64 i)).run P w= .ok v w:=by
 cases hq:P.info? e with
 | none=>simp[hq]at hi
 | some j=>
   have hs:j.size=1:=by simpa [hq]using hi
   have hb:(0:Int)≤(i:Int)∧(i:Int)<(n:Int):=by omega
   have hv2:vs.toArray[i]? =some v:=by simpa using hv
   simp[Instr.index,run_underlying h,asIntOf,hn,sizeOf,typeInfo,hq,hs,part,isAgg,run_underlying he,hv2,hv,Array.getD_eq_getD_getElem?]
end
end
section
open Go.RowKit Go.Extern.Stop Go.Stop Go.Extern
theorem Tryz.valueOfPP (t:Addr)(w:World):(ReflectliteValue.unpack (.iface 74 (.pointer (some t)))).run Tryz.prog w
 = .ok (.agg #[.pointer (some ⟨3,74,none⟩),.pointer (some ⟨w.heap.size,0,none⟩),.int .u64 150]) (w.alloc (.cells #[.pointer (some t)] 74)):=by kernel_rfl
theorem Tryz.typePP (a:Addr)(w:World):(ReflectliteValue.methodAny (ReflectliteValue.valueError "reflectlite.Value.Type" 0) (fun t _ _ _=>ReflectliteType.toType t) #[.agg #[.pointer (some ⟨3,74,none⟩),.pointer (some a),.int .u64 150]]).run Tryz.prog w
 = .ok (.iface 136 (.agg #[.pointer (some ⟨3,74,none⟩)])) w:=by kernel_rfl
theorem Tryz.methodKind (h:Value)(w:World):(Go.method 304 136 (.agg #[h]) "Kind").run Tryz.prog w= .ok (148,h) w:=by kernel_rfl
theorem Tryz.kindPP (w:World):((ReflectliteType.abiMethod fun t=>(fun a:Nat=>Value.int IntKind.u8 (a:Int)) <$> Rtype.kind t) #[.pointer (some ⟨3,74,none⟩)]).run Tryz.prog w= .ok (.int .u8 22) w:=by kernel_rfl
theorem Tryz.kindP (w:World):((ReflectliteType.abiMethod fun t=>(fun a:Nat=>Value.int IntKind.u8 (a:Int)) <$> Rtype.kind t) #[.pointer (some ⟨3,57,none⟩)]).run Tryz.prog w= .ok (.int .u8 22) w:=by kernel_rfl
theorem rlm (z:Sem Value)(f:TypeId→Addr→Nat→Nat→Sem Value)(v:Value):
 ReflectliteValue.method z f #[v]=(do match←ReflectliteValue.parts v with | none=>z | some (t,a,fl)=>f t a fl (fl % 32)):=rfl
theorem Tryz.partsPP (a:Addr)(w:World):(ReflectliteValue.parts (.agg #[.pointer (some ⟨3,74,none⟩),.pointer (some a),.int .u64 150])).run Tryz.prog w= .ok (some (74,a,150)) w:=by kernel_rfl
theorem Tryz.isNilPP (a p:Addr)(W:World)(ha:W.cell? a=some (.pointer (some p))):
 (ReflectliteValue.method (ReflectliteValue.valueError "reflectlite.Value.IsNil" 0) ReflectliteValue.isNil #[.agg #[.pointer (some ⟨3,74,none⟩),.pointer (some a),.int .u64 150]]).run Tryz.prog W= .ok (.bool false) W:=by
 rw[rlm]
 simp only[Sem.run_bind,Tryz.partsPP,Result.andThen]
 simp[ReflectliteValue.isNil,loadVar,isAgg,underlying,Tryz.underlying74,ha,Result.andThen]
theorem Tryz.methodElem (h:Value)(w:World):(Go.method 304 136 (.agg #[h]) "Elem").run Tryz.prog w= .ok (160,.agg #[h]) w:=by kernel_rfl
theorem Tryz.methodImplements (h:Value)(w:World):(Go.method 304 136 (.agg #[h]) "Implements").run Tryz.prog w= .ok (161,.agg #[h]) w:=by kernel_rfl
theorem Tryz.methodAssignableTo (h:Value)(w:World):(Go.method 304 136 (.agg #[h]) "AssignableTo").run Tryz.prog w= .ok (158,.agg #[h]) w:=by kernel_rfl
theorem Tryz.methodComparable (h:Value)(w:World):(Go.method 304 136 (.agg #[h]) "Comparable").run Tryz.prog w= .ok (159,.agg #[h]) w:=by kernel_rfl
theorem Tryz.elemPP (w:World):(ReflectliteType.method ReflectliteType.elem #[.agg #[.pointer (some ⟨3,74,none⟩)]]).run Tryz.prog w= .ok (.iface 136 (.agg #[.pointer (some ⟨3,57,none⟩)])) w:=by kernel_rfl
theorem Tryz.implementsP (w:World):(ReflectliteType.relation "Implements" ReflectliteType.implements_ #[.agg #[.pointer (some ⟨3,57,none⟩)],.iface 136 (.agg #[.pointer (some ⟨3,28,none⟩)])]).run Tryz.prog w= .ok (.bool true) w:=by kernel_rfl
theorem Tryz.typeOfP (v:Value)(w:World):(ReflectliteType.typeOf #[.iface 57 v]).run Tryz.prog w= .ok (.iface 136 (.agg #[.pointer (some ⟨3,57,none⟩)])) w:=by kernel_rfl
theorem Tryz.typeOfC (v:Value)(w:World):(ReflectliteType.typeOf #[.iface 51 v]).run Tryz.prog w= .ok (.iface 136 (.agg #[.pointer (some ⟨3,51,none⟩)])) w:=by kernel_rfl
theorem Tryz.comparableC (w:World):((ReflectliteType.method fun t=>do Rtype.noPackHeld "Comparable" t;pure (.bool (←typeInfo t).comparable)) #[.agg #[.pointer (some ⟨3,51,none⟩)]]).run Tryz.prog w= .ok (.bool true) w:=by kernel_rfl
theorem Tryz.assignableP (w:World):(ReflectliteType.relation "AssignableTo" ReflectliteType.assignableTo #[.agg #[.pointer (some ⟨3,57,none⟩)],.iface 136 (.agg #[.pointer (some ⟨3,57,none⟩)])]).run Tryz.prog w= .ok (.bool true) w:=by kernel_rfl
theorem Tryz.valueOfP (e:Addr)(w:World):(ReflectliteValue.unpack (.iface 57 (.pointer (some e)))).run Tryz.prog w
 = .ok (.agg #[.pointer (some ⟨3,57,none⟩),.pointer (some ⟨w.heap.size,0,none⟩),.int .u64 150]) (w.alloc (.cells #[.pointer (some e)] 57)):=by kernel_rfl
theorem Tryz.elemOfPP (w:World):(Rtype.elem? 74).run Tryz.prog w= .ok (some 57) w:=by kernel_rfl
theorem Tryz.mkP (p:Addr)(w:World):(ReflectliteValue.mk 57 p ReflectliteValue.flagAddr).run Tryz.prog w= .ok (.agg #[.pointer (some ⟨3,57,none⟩),.pointer (some p),.int .u64 406]) w:=by kernel_rfl
theorem Tryz.elemVPP (a p:Addr)(W:World)(ha:W.cell? a=some (.pointer (some p))):
 (ReflectliteValue.method (ReflectliteValue.valueError "reflectlite.Value.Elem" 0) ReflectliteValue.elem #[.agg #[.pointer (some ⟨3,74,none⟩),.pointer (some a),.int .u64 150]]).run Tryz.prog W
   = .ok (.agg #[.pointer (some ⟨3,57,none⟩),.pointer (some p),.int .u64 406]) W:=by
 rw[rlm]
 simp only[Sem.run_bind,Tryz.partsPP,Result.andThen]
 simp[ReflectliteValue.elem,loadVar,isAgg,underlying,Tryz.underlying74,ha,Result.andThen,Tryz.elemOfPP,Tryz.mkP]
theorem rls (v x:Value):ReflectliteValue.set #[v,x]=(do
 let (some (dst,a,fl),some (src,b,_)):=(←ReflectliteValue.parts v,←ReflectliteValue.parts x)
  | unsupported (.noEntry "extern/(internal/reflectlite.Value).Set.zeroValue")
 if fl / ReflectliteValue.flagAddr % 2 == 0 then unsupported (.noEntry "extern/(internal/reflectlite.Value).Set.unaddressable")
 let val←loadVar src b
 if←Rtype.directlyAssignable dst src then storeVar dst a val
 else if←Rtype.implements dst src then
  if(←Rtype.kind src) == 20 then
   match val with
   | .nilIface=>unsupported (.noEntry "extern/reflectlite: a nil value of one interface type handed on as a value of another")
   | _=>storeVar dst a val
  else storeVar dst a (.iface src val)
 else panicString ("reflectlite.Set: value of type " ++ (←Rtype.spelt src) ++ " is not assignable to type " ++ (←Rtype.spelt dst))
 pure (.tuple #[])):=rfl
theorem Tryz.partsPa (a:Addr)(w:World):(ReflectliteValue.parts (.agg #[.pointer (some ⟨3,57,none⟩),.pointer (some a),.int .u64 406])).run Tryz.prog w= .ok (some (57,a,406)) w:=by kernel_rfl
theorem Tryz.partsP (a:Addr)(w:World):(ReflectliteValue.parts (.agg #[.pointer (some ⟨3,57,none⟩),.pointer (some a),.int .u64 150])).run Tryz.prog w= .ok (some (57,a,150)) w:=by kernel_rfl
theorem Tryz.directP (w:World):(Rtype.directlyAssignable 57 57).run Tryz.prog w= .ok true w:=by kernel_rfl
theorem Tryz.setP (ta b e:Addr)(old:Value)(W:World)(hb:W.cell? b=some (.pointer (some e)))(ht:W.cell? ta=some old)(hf:W.frozen? ta=false):
 (ReflectliteValue.set #[.agg #[.pointer (some ⟨3,57,none⟩),.pointer (some ta),.int .u64 406],.agg #[.pointer (some ⟨3,57,none⟩),.pointer (some b),.int .u64 150]]).run Tryz.prog W
   = .ok (.tuple #[]) (W.setCell ta (.pointer (some e))):=by
 rw[rls]
 simp only[Sem.run_bind,Tryz.partsPa,Tryz.partsP,Result.andThen]
 simp[ReflectliteValue.flagAddr,loadVar,isAgg,underlying,Tryz.underlying57,hb,Result.andThen,Tryz.directP,storeVar,Value.cells,storeCells,Addr.add]
 rw[run_store Tryz.prog W ta _ _ (by rfl)]
 simp[ht,hf]
end
end Go.Proofs.YtfcaclmcnlflfaaGreatDoor
