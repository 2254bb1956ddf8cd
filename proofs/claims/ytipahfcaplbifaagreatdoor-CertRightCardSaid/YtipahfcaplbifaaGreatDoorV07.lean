/- Parts of a proof. -/
import Derived.Test.YtipahfcaplbifaaGreatDoorV01
import Derived.Test.YtipahfcaplbifaaGreatDoorV04
import Derived.Test.YtipahfcaplbifaaGreatDoorQ35
import Derived.Test.YtipahfcaplbifaaGreatDoorQ22
import Derived.Test.YtipahfcaplbifaaGreatDoorQ23
import Derived.Deep.RegionWith
import Derived.Lib.QuietBelow
import Derived.BigQuiet
set_option linter.unusedVariables false
set_option linter.unusedSimpArgs false
set_option maxHeartbeats 60000000
set_option maxRecDepth 100000
namespace Go.Proofs.YtipahfcaplbifaaGreatDoor
section
open Go.RowKit
theorem ret_made {n:Nat}{f:FT}(h:isF n f=true):madeF n f=true:=by
 unfold isF at h
 simp only[Bool.and_eq_true]at h
 exact h.2.2
end
section
open Go.RowKit
theorem flies_leafU (B:Nat)(w:World)(k c:Int)(t:List (Int×Int))(ta:Option Addr)(tcap:Nat)(ht:t.length≤9223372036854775807)(h:Lies B w ta t):FLies B w 1 (.mk k c t []) [.int .i64 k,.int .i64 c,.slice ta t.length tcap,.slice none 0 0]:=
 ⟨ta,tcap,none,0,rfl,h,ht,Nat.zero_le _,fun i hi=>absurd hi (Nat.not_lt_zero i)⟩
theorem Tryz.eqNilNil (w:World):(binOp .eql 26 .nilIface .nilIface).run Tryz.prog w= .ok (.bool true) w:=by simp[go_sem]
def LLies (B:Nat)(w:World)(a:Option Addr)(ls:List (Int×List (Int×Int))):Prop:=
 ∀i,i<ls.length→∃b off ta tcap,a=some ⟨b,off,none⟩∧b<B∧w.cell? ⟨b,off+i*2,none⟩=some (.int .i64 (ls.getD i (0,[])).1)∧w.cell? ⟨b,off+i*2+1,none⟩=some (.slice ta (ls.getD i (0,[])).2.length tcap)∧Lies B w ta (ls.getD i (0,[])).2
theorem llies_of {S:Nat→Prop}{w:World}{a:Option Addr}{ls:List (Int×List (Int×Int))}{B:Nat}(h:Pak.Sits linSh S w a ls)(hS:∀b,S b→b<B):LLies B w a ls:=fun i hi=>by
 obtain⟨b,off,us,e,hb,hc,ta,cap,rfl,hn⟩:=h.2 i hi
 have e1:linSh.k=2:=rfl
 have c0:=hc 0 _ rfl
 have c1:=hc 1 _ rfl
 rw[e1,Nat.add_zero]at c0
 rw[e1]at c1
 rw[List.getD_eq_getElem?_getD,List.getElem?_eq_getElem hi,Option.getD_some]
 exact⟨b,off,ta,cap,e,hS b hb,c0,c1,hn.lies hS⟩
theorem LLies.below {B:Nat}{w w':World}{a:Option Addr}{ls:List (Int×List (Int×Int))}(h:LLies B w a ls)(hb:Below B w w'):LLies B w' a ls:=fun i hi=>by
 obtain⟨b,off,ta,tcap,e,hlt,c0,c1,hl⟩:=h i hi
 exact⟨b,off,ta,tcap,e,hlt,(hb.cell (p:=⟨b,off+i*2,none⟩) hlt).trans c0,(hb.cell (p:=⟨b,off+i*2+1,none⟩) hlt).trans c1,hl.below hb⟩
theorem LLies.mono {B B':Nat}{w:World}{a:Option Addr}{ls:List (Int×List (Int×Int))}(h:LLies B w a ls)(hb:B≤B'):LLies B' w a ls:=fun i hi=>by
 obtain⟨b,off,ta,tcap,e,hlt,c0,c1,hl⟩:=h i hi
 exact⟨b,off,ta,tcap,e,Nat.lt_of_lt_of_le hlt hb,c0,c1,hl.mono hb⟩
end
section
open Go.RowKit
theorem cnfK_made {n:Nat}{f:FT}(h:cnfK n f=0):isF n f=true:=by
 unfold cnfK at h
 split at h
 ·cases h
 ·rename_i hh;simpa using hh
theorem tree_cells (w:World)(x y z:Value):(w.alloc (.cells #[x,y,z] 71)).cell? ⟨w.heap.size,0,none⟩=some x∧(w.alloc (.cells #[x,y,z] 71)).cell? ⟨w.heap.size,1,none⟩=some y∧(w.alloc (.cells #[x,y,z] 71)).cell? ⟨w.heap.size,2,none⟩=some z:=by
 have hn:=heap_alloc_new w (.cells #[x,y,z] 71)
 exact⟨(cell_of_row _ _ _ _ _ _ hn).trans rfl,(cell_of_row _ _ _ _ _ _ hn).trans rfl,(cell_of_row _ _ _ _ _ _ hn).trans rfl⟩
theorem CnfOk.lies {n:Nat}{f:FT}{B:Nat}{w:World}{av cv:Value}(h:CnfOk n f B w av cv)(hi:isF n f=true):∃aa ac ca cc,av= .slice aa (atomsF n f).length ac∧cv= .slice ca (clsF n f).length cc∧LLies w.heap.size w aa (atomsF n f)∧Prp.CLies w.heap.size w ca (clsF n f):=by
 obtain⟨K,Sa,Sc,k1,k2,k3,k4,k5,k6,k7,k8⟩:=h
 obtain⟨q1,q2,q3,q4⟩:=cls_len hi
 obtain⟨aa,ac,rfl,hs⟩:=k3.slot (by omega)
 obtain⟨ca,cc,rfl,ht⟩:=k6.slot (by omega)
 refine⟨aa,ac,ca,cc,rfl,rfl,llies_of hs (fun b hb=> ?_),clies_of ht (fun b hb=> ?_)⟩
 ·rcases hb with hb | hb
  ·exact(k3.ok b hb).1
  ·exact(k3.lt b hb).2
 ·rcases hb with hb | hb
  ·exact(k6.ok b hb).1
  ·exact(k6.lt b hb).2
end
end Go.Proofs.YtipahfcaplbifaaGreatDoor
