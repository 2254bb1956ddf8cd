/- Parts of a proof. -/
import Derived.Test.YtipahfcaplbifaaGreatDoorV01
import Derived.Test.YtipahfcaplbifaaGreatDoorV02
import Derived.Test.YtipahfcaplbifaaGreatDoorQ17
set_option linter.unusedVariables false
set_option linter.unusedSimpArgs false
set_option maxHeartbeats 60000000
set_option maxRecDepth 100000
namespace Go.Proofs.YtipahfcaplbifaaGreatDoor
section
open Go.RowKit Go.Extern.Stop Go.Stop Go.Extern
theorem Tryz.assignableC (w:World):(ReflectliteType.relation "AssignableTo" ReflectliteType.assignableTo #[.agg #[.pointer (some ⟨4,60,none⟩)],.iface 162 (.agg #[.pointer (some ⟨4,76,none⟩)])]).run Tryz.prog w= .ok (.bool false) w:=by kernel_rfl
theorem Tryz.noAsC (v:Value)(xT:TypeId)(w:World):(Instr.typeAssert (.iface 60 v) xT 166 true).run Tryz.prog w= .ok (.tuple #[.nilIface,.bool false]) w:=run_typeAssert_lacksB Tryz.underlying166 (by kernel_rfl) (by kernel_rfl) v xT w
theorem Tryz.noUnC (v:Value)(xT:TypeId)(w:World):(Instr.typeAssert (.iface 60 v) xT 169 true).run Tryz.prog w= .ok (.tuple #[.nilIface,.bool false]) w:=run_typeAssert_lacksB Tryz.underlying169 (by kernel_rfl) (by kernel_rfl) v xT w
theorem Tryz.noUnsC (v:Value)(xT:TypeId)(w:World):(Instr.typeAssert (.iface 60 v) xT 171 true).run Tryz.prog w= .ok (.tuple #[.nilIface,.bool false]) w:=run_typeAssert_lacksB Tryz.underlying171 (by kernel_rfl) (by kernel_rfl) v xT w
theorem as_code (k:Int)(t:Addr)(old:Value)(w:World)(hg:w.cell? ⟨0,0,none⟩=some (.iface 162 (.agg #[.pointer (some ⟨4,26,none⟩)])))(ht0:w.cell? t=some old):
 Calls Tryz.prog 43 #[.iface 60 (.int .i64 k),.iface 94 (.pointer (some t))] w fun ev w'=>ev= .returned (.bool false)∧Below w.heap.size w w':=by
 have h6:= @run_callFunc_extern Tryz.prog 72 _ (fun args=>ReflectliteValue.unpack (args.getD 0 (.tuple #[]))) Tryz.func72 (by kernel_rfl) (by kernel_rfl) (by kernel_rfl) (by kernel_rfl)
 have h7:= @run_callFunc_extern Tryz.prog 73 _ (ReflectliteValue.methodAny (ReflectliteValue.valueError "reflectlite.Value.Type" 0) (fun t _ _ _=>ReflectliteType.toType t)) Tryz.func73 (by kernel_rfl) (by kernel_rfl) (by kernel_rfl) (by kernel_rfl)
 have h8:= @run_callFunc_extern Tryz.prog 74 _ (ReflectliteValue.method (ReflectliteValue.valueError "reflectlite.Value.IsNil" 0) ReflectliteValue.isNil) Tryz.func74 (by kernel_rfl) (by kernel_rfl) (by kernel_rfl) (by kernel_rfl)
 have h27:= @run_callFunc_extern Tryz.prog 203 _ (ReflectliteType.abiMethod fun t=>do pure (.int .u8 (←Rtype.kind t))) Tryz.func203 (by kernel_rfl) (by kernel_rfl) (by kernel_rfl) (by kernel_rfl)
 have h37:= @run_callFunc_extern Tryz.prog 215 _ (ReflectliteType.method ReflectliteType.elem) Tryz.func215 (by kernel_rfl) (by kernel_rfl) (by kernel_rfl) (by kernel_rfl)
 have h38:= @run_callFunc_extern Tryz.prog 216 _ (ReflectliteType.relation "Implements" ReflectliteType.implements_) Tryz.func216 (by kernel_rfl) (by kernel_rfl) (by kernel_rfl) (by kernel_rfl)
 have h10:= @run_callFunc_extern Tryz.prog 76 _ ReflectliteType.typeOf Tryz.func76 (by kernel_rfl) (by kernel_rfl) (by kernel_rfl) (by kernel_rfl)
 have h35:= @run_callFunc_extern Tryz.prog 213 _ (ReflectliteType.relation "AssignableTo" ReflectliteType.assignableTo) Tryz.func213 (by kernel_rfl) (by kernel_rfl) (by kernel_rfl) (by kernel_rfl)
 have tO:=Prp.Tryz.typeOfC
 have mA:=Prp.Tryz.methodAssignableTo
 have a25:=Tryz.assignableC
 have nA:=Tryz.noAsC
 have nU:=Tryz.noUnC
 have nS:=Tryz.noUnsC
 have f6:=Prp.Tryz.valueOfPP
 have f7:=Prp.Tryz.typePP
 have mK:=Prp.Tryz.methodKind
 have mE:=Prp.Tryz.methodElem
 have mI:=Prp.Tryz.methodImplements
 have k27:=Prp.Tryz.kindPP
 have k25:=Prp.Tryz.kindP
 have e27:=Prp.Tryz.elemPP
 have i25:=Prp.Tryz.implementsP
 have n8:=Prp.Tryz.isNilPP ⟨w.heap.size,0,none⟩ t ((w.alloc (.cells #[.pointer (some t)] 94)).alloc (.cells #[.pointer (some ⟨4,94,none⟩),.pointer (some ⟨w.heap.size,0,none⟩),.int .u64 150] 135)) (by simp)
 have hlt:0<w.heap.size:=by
  rcases Nat.eq_zero_or_pos w.heap.size with h0 | h
  ·simp[World.cell?,h0]at hg
  ·exact h
 have hg2:((w.alloc (.cells #[.pointer (some t)] 94)).alloc (.cells #[.pointer (some ⟨4,94,none⟩),.pointer (some ⟨w.heap.size,0,none⟩),.int .u64 150] 135)).cell? ⟨0,0,none⟩=some (.iface 162 (.agg #[.pointer (some ⟨4,26,none⟩)])):=by
  rw[World.cell?_alloc_lt _ _ ⟨0,0,none⟩ (by simp),World.cell?_alloc_lt _ _ ⟨0,0,none⟩ hlt];exact hg
 go_enter Tryz.func43,Tryz.ntmps43
 go_wp2
 refine wp_loop_rounds 1 ?_
 rw[rounds_succ]
 go_wp2
 go_ret
 refine⟨rfl, ?_⟩
 repeat' (first | exact Below.refl _ _ | refine Below.alloc ?_ ?_ _)
 all_goals (simp;try omega)
theorem code_err {B:Nat}{k at':Int}{er:Value}{w:World}(h:Cut.ErrIs B k at' er w)(hk:k≠0)(hg:Prp.Laid0 w):
 Calls Tryz.prog 34 #[er] w fun e w'=>e= .returned (codeV k)∧Below w.heap.size w w':=by
 have hb0:Below w.heap.size w (w.alloc (.cells #[.pointer none] 76)):=(Below.refl _ w).alloc (Nat.le_refl _) _
 have hn:=heap_alloc_new w (.cells #[.pointer none] 76)
 have hg1:=hg.below hb0 hg.pos
 have hc0:(w.alloc (.cells #[.pointer none] 76)).cell? ⟨w.heap.size,0,none⟩=some (.pointer none):=(cell_of_row _ _ _ _ _ _ hn).trans rfl
 have HB0:=Lib.hid hb0
 by_cases ha:at'<0
 ·have e:=h.1 ha
  have e2:Cut.codeV k= .iface 60 (.int .i64 k):=if_neg hk
  have e3:codeV k= .iface 60 (.int .i64 k):=if_neg hk
  rw[e,e2,e3]
  have HAS:=Lib.hid (as_code k ⟨w.heap.size,0,none⟩ _ _ hg1 hc0)
  clear h hg hb0 hn hg1 hc0 e e2 e3
  go_enter Tryz.func34,Tryz.ntmps34
  go_wp2_with fail
  refine HAS.out.mono ?_
  rintro e w1 ⟨rfl,hb1⟩
  have HB1:=Lib.hid (HB0.out.trans (hb1.mono HB0.out.size))
  clear hb1 HAS
  go_wp2_with fail
  go_ret
  exact⟨rfl,HB1.out⟩
 ·obtain⟨g,e1,_,e3,e4,e5⟩:=h.2 (by omega)
  have HAS:=Lib.hid (Prp.as_spot ⟨g,0,none⟩ w.heap.size (.pointer none) (w.alloc (.cells #[.pointer none] 76)) hg1 hc0 (frozen_of_row _ _ _ _ _ hn) (lt_of_some hn))
  have e5:w.cell? ⟨g,1,none⟩=some (codeV k):=e5
  rw[e1]
  have HG:=Lib.hid (And.intro e3 e5)
  obtain⟨kv,hkv⟩:∃kv,kv=codeV k:=⟨_,rfl⟩
  rw[←hkv]at HG⊢
  clear h hg hb0 hn hg1 hc0 e1 e3 e4 e5 hkv
  go_enter Tryz.func34,Tryz.ntmps34
  go_wp2_with fail
  refine HAS.out.mono ?_
  rintro e w1 ⟨rfl,hc1,hb1,hz1⟩
  have q1:w1.cell? ⟨g,1,none⟩=some kv:=(hb1.cell (p:=⟨g,1,none⟩) HG.out.1).trans ((HB0.out.cell (p:=⟨g,1,none⟩) HG.out.1).trans HG.out.2)
  have HB1:Hid (Below w.heap.size w w1):=HB0.out.trans hb1
  clear hb1 HAS
  go_wp2_with fail
  go_ret
  exact⟨rfl,HB1.out⟩
def LemEnd (B:Nat)(k:Int)(w:World)(e:Ending)(w':World):Prop:=∃er at',e= .returned er∧Cut.ErrIs B k at' er w'∧(0≤at'→k≠0)∧Below B w w'
theorem ErrIs.low {B B':Nat}{k at':Int}{er:Value}{w:World}(h:Cut.ErrIs B k at' er w)(hB:B'≤B):Cut.ErrIs B' k at' er w:=
 ⟨h.1,fun h0=>by
   obtain⟨g,e1,e2,r⟩:=h.2 h0
   exact⟨g,e1,Nat.le_trans hB e2,r⟩⟩
theorem prem_short {am:List (Int×List (Int×Int))}(hok:Cut.lsOk am){ls:List Int}(h:premK am ls=0):∀i,i<(premL am ls).length→((premL am ls).getD i (0,[])).2.length≤64:=by
 obtain⟨h1,_,h3⟩:=premK_zero h
 intro i hi
 rw[h3]at hi⊢
 rw[List.length_map]at hi
 rw[List.getD_eq_getElem?_getD,List.getElem?_map,List.getElem?_eq_getElem hi,Option.map_some,Option.getD_some]
 have hin:=of_decide_eq_true (h1 _ (List.getElem_mem hi))
 have hs:=hok (ls[i].natAbs - 1) (by omega)
 have h64:=(snd_iff.1 hs).2.1
 unfold oppA
 split
 ·exact h64
 ·rw[scale_len];exact h64
theorem prem_len {am:List (Int×List (Int×Int))}{ls:List Int}(h:premK am ls=0):(premL am ls).length=ls.length:=by rw[(premK_zero h).2.2,List.length_map]
theorem lemma_any (aa:Option Addr)(an acap:Nat)(am:List (Int×List (Int×Int)))(la:Option Addr)(n lcap:Nat)(ls:List Int)(sa:Option Addr)(sn scap:Nat)(ss:List (List (Int×Int)×Int))(w:World)(k:Int)(hk:LemIs am (ls,ss) k)
 (han:am.length=an) (ham:an≤1000000) (hla:Cut.LLies w.heap.size w aa am) (hok:Cut.lsOk am) (hln:ls.length=n) (hlm:n≤1000000) (hll:Nums w.heap.size w la ls) (hsn:ss.length=sn) (hsm:sn≤9223372036854775807) (hsl:Cut.SLies w.heap.size w sa ss):
 Calls Tryz.prog 33 #[.slice aa an acap,.agg #[.slice la n lcap,.slice sa sn scap]] w (LemEnd w.heap.size k w):=by
 have hA:Below w.heap.size w (w.alloc (.cells #[.slice la n lcap,.slice sa sn scap] 57)):=(Below.refl _ w).alloc (Nat.le_refl _) _
 have hn:=heap_alloc_new w (.cells #[.slice la n lcap,.slice sa sn scap] 57)
 have hc0:(w.alloc (.cells #[.slice la n lcap,.slice sa sn scap] 57)).cell? ⟨w.heap.size,0,none⟩=some (.slice la n lcap):=(cell_of_row _ _ _ _ _ _ hn).trans rfl
 have hc1:(w.alloc (.cells #[.slice la n lcap,.slice sa sn scap] 57)).cell? ⟨w.heap.size,1,none⟩=some (.slice sa sn scap):=(cell_of_row _ _ _ _ _ _ hn).trans rfl
 have hlt:w.heap.size<(w.alloc (.cells #[.slice la n lcap,.slice sa sn scap] 57)).heap.size:=by simp
 have HPR:=Lib.hid (prem_any aa an acap am la n lcap ls (w.alloc (.cells #[.slice la n lcap,.slice sa sn scap] 57)) han ham ((hla.below hA).mono hA.size) hok hln hlm ((hll.below hA).mono hA.size))
 have HSL:=Lib.hid ((hsl.below hA).mono hA.size)
 have HA:=Lib.hid hA
 have HLT:=Lib.hid hlt
 have n1:=fun t v W=>Cut.Tryz.neIface t v W
 have HSN:=Lib.hid hsn
 have HLN:=Lib.hid hln
 clear hla hll hsl hn hA hlt hsn hln
 rcases hk with ⟨h0,rfl⟩ | ⟨h0,x,at',L,hL,rfl⟩
 ·have e3:codeV (premK am ls)= .iface 60 (.int .i64 (premK am ls)):=if_neg h0
  have HE:Hid (∀W,Below w.heap.size w W→LemEnd w.heap.size (premK am ls) w (.returned (.iface 60 (.int .i64 (premK am ls)))) W):=fun W hb=>⟨_, -1,rfl,⟨fun _=>e3.symm,fun h=>absurd h (by decide)⟩,fun h=>absurd h (by decide),hb⟩
  have E3:=Lib.hid e3
  clear hok h0 e3
  go_enter Tryz.func33,Tryz.ntmps33
  go_wp2_with fail
  refine HPR.out.mono ?_
  rintro e w1 ⟨v,xs,rfl,hrow,hfs,hb1⟩
  rw[E3.out]
  have HB:=Lib.hid (HA.out.trans (hb1.mono HA.out.size))
  clear hrow hfs hb1 HPR
  go_wp2_with fail
  go_ret
  exact HE.out _ HB.out
 ·have HSH:=Lib.hid (prem_short hok h0)
  have HPL:=Lib.hid (prem_len h0)
  have HK0:Hid (codeV (premK am ls)= .nilIface):=by show _=_;rw[h0];rfl
  have HCO:=Lib.hid (Cut.refX_code hL)
  have HRF:=Lib.hid (fun(W:World) (a:Option Addr) (m cap:Nat) (h:Cut.Given W.heap.size W a m (premL am ls) sa sn ss)=>Cut.refutes_any a m cap (premL am ls) sa sn scap ss W h x at' L hL)
  clear hok h0 hL
  go_enter Tryz.func33,Tryz.ntmps33
  go_wp2_with fail
  refine HPR.out.mono ?_
  rintro e w1 ⟨v,xs,rfl,hrow,hfs,hb1⟩
  rw[HK0.out]
  obtain⟨pa,pcap,rfl,hll⟩:=hrow.llies
  rw[hfs]at hll
  have hxl:(premL am ls).length=xs.length:=by rw[←hfs,Cut.lforms_len]
  have hxm:xs.length≤9223372036854775807:=by rw[←hxl,HPL.out,HLN.out];omega
  have q0:=(hb1.cell (p:=⟨w.heap.size,0,none⟩) HLT.out).trans hc0
  have q1:=(hb1.cell (p:=⟨w.heap.size,1,none⟩) HLT.out).trans hc1
  have HR:=Lib.hid (HRF.out w1 pa xs.length pcap ⟨hxl,hll,fun i hi=>Nat.le_trans (HSH.out i (by rw[hxl];exact hi)) (by decide),HSN.out,(HSL.out.below hb1).mono hb1.size,hxm,hsm⟩)
  have HB:=Lib.hid (HA.out.trans (hb1.mono HA.out.size))
  clear hrow hfs hb1 hll hxl hc0 hc1 HPR HRF
  generalize xs.length=m at HR hxm
  go_wp2_with fail
  refine HR.out.mono ?_
  rintro e w2 ⟨er,rfl,her,hb2⟩
  have HE:Hid (LemEnd w.heap.size (Cut.refX x L) w (.returned er) w2):=⟨er,at',rfl,ErrIs.low her HB.out.size,HCO.out.2,HB.out.trans (hb2.mono HB.out.size)⟩
  clear her hb2 HR
  go_wp2_with fail
  go_ret
  exact HE.out
end
end Go.Proofs.YtipahfcaplbifaaGreatDoor
