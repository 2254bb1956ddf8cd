/- Parts of a proof. -/
import Derived.Test.YtfinhpfjokpcfaaDoorProg
import Derived.WalkKit
import Derived.Lib.Hide
import Derived.Below
import Derived.Lib.Bytealg
import Derived.Deep.AppendLies
import Derived.Lib.AppendZerosOnto
import Derived.RegionTactic
import Derived.BigRegion
import Derived.Deep.RegionWith
import Derived.BigQuiet
import Derived.Lib.QuietBelow
import Derived.Deep.QuietTactic
import Derived.Deep.RegionLaw
set_option linter.unusedVariables false
set_option linter.unusedSimpArgs false
set_option maxHeartbeats 60000000
set_option maxRecDepth 100000
namespace Go.Proofs.YtfinhpfjokpcfaaDoor
section
open Go.RowKit
abbrev Bs:=List UInt8
theorem bl_irrefl:∀x:Bs,Op.bytesLess x x=false
 | []=>rfl
 | a :: x=>by
   have h1:¬a<a:=UInt8.lt_irrefl a
   simp[Op.bytesLess,bl_irrefl x]
theorem bl_trans:∀ {x y z:Bs},Op.bytesLess x y=true→Op.bytesLess y z=true→Op.bytesLess x z=true
 | [],[],_,h,_=>by simp[Op.bytesLess]at h
 | [],_ :: _,[],_,h=>by simp[Op.bytesLess]at h
 | [],_ :: _,_ :: _,_,_=>rfl
 | _ :: _,[],_,h,_=>by simp[Op.bytesLess]at h
 | _ :: _,_ :: _,[],_,h=>by simp[Op.bytesLess]at h
 | a :: x,b :: y,c :: z,h1,h2=>by
   simp only[Op.bytesLess,Bool.or_eq_true,decide_eq_true_eq,Bool.and_eq_true,beq_iff_eq]at h1 h2⊢
   rcases h1 with h1 | ⟨rfl,h1⟩
   ·rcases h2 with h2 | ⟨rfl,_⟩
    ·exact .inl (UInt8.lt_trans h1 h2)
    ·exact .inl h1
   ·rcases h2 with h2 | ⟨rfl,h2⟩
    ·exact .inl h2
    ·exact .inr ⟨rfl,bl_trans h1 h2⟩
theorem bl_total:∀ {x y:Bs},x≠y→Op.bytesLess x y=true∨Op.bytesLess y x=true
 | [],[],h=>absurd rfl h
 | [],_ :: _,_=> .inl rfl
 | _ :: _,[],_=> .inr rfl
 | a :: x,b :: y,h=>by
   simp only[Op.bytesLess,Bool.or_eq_true,decide_eq_true_eq,Bool.and_eq_true,beq_iff_eq]
   by_cases hab:a=b
   ·subst hab
    rcases bl_total (x:=x) (y:=y) (fun e=>h (by rw[e]))with h1 | h1
    ·exact .inl (.inr ⟨rfl,h1⟩)
    ·exact .inr (.inr ⟨rfl,h1⟩)
   ·rcases UInt8.lt_or_lt_of_ne hab with h1 | h1
    ·exact .inl (.inl h1)
    ·exact .inr (.inl h1)
theorem cmpB_eq:∀x y:Bs,Lib.compareBytes x y=if Op.bytesLess x y=true then -1 else if x=y then 0 else 1
 | [],[]=>rfl
 | [],_ :: _=>rfl
 | _ :: _,[]=>by simp[Lib.compareBytes,Op.bytesLess]
 | a :: x,b :: y=>by
   unfold Lib.compareBytes
   rw[cmpB_eq x y]
   simp only[Op.bytesLess,Bool.or_eq_true,decide_eq_true_eq,Bool.and_eq_true,beq_iff_eq]
   by_cases h1:a<b
   ·rw[if_pos h1,if_pos (.inl h1)]
   ·rw[if_neg h1]
    by_cases h2:b<a
    ·rw[if_pos h2,if_neg,if_neg]
     ·intro e;injection e with e _;subst e;exact UInt8.lt_irrefl _ h2
     ·rintro(h | ⟨rfl,_⟩)
      ·exact h1 h
      ·exact UInt8.lt_irrefl _ h2
    ·rw[if_neg h2]
     obtain rfl:a=b:=by
      rcases Classical.em (a=b)with h | h
      ·exact h
      ·rcases UInt8.lt_or_lt_of_ne h with h | h
       ·exact absurd h h1
       ·exact absurd h h2
     by_cases h3:Op.bytesLess x y=true
     ·rw[if_pos h3,if_pos (.inr ⟨rfl,h3⟩)]
     ·have h5:¬(a<a∨a=a∧Op.bytesLess x y=true):=fun h=>by
       rcases h with h | ⟨_,h⟩
       ·exact h1 h
       ·exact h3 h
      rw[if_neg h3,if_neg h5]
      by_cases h4:x=y
      ·rw[if_pos h4,if_pos (by rw[h4])]
      ·rw[if_neg h4,if_neg (fun e=>h4 (by injection e))]
abbrev Key:=Int×Bs
def kl (x y:Key):Bool:=decide (x.1<y.1) || (decide (x.1=y.1) && Op.bytesLess x.2 y.2)
theorem kl_iff {x y:Key}:kl x y=true↔x.1<y.1∨x.1=y.1∧Op.bytesLess x.2 y.2=true:=by simp[kl]
theorem kl_irrefl (x:Key):¬kl x x=true:=fun h=>by
 rcases kl_iff.1 h with h | ⟨_,h⟩
 ·omega
 ·rw[bl_irrefl]at h;cases h
theorem kl_trans {x y z:Key}(h1:kl x y=true)(h2:kl y z=true):kl x z=true:=by
 rw[kl_iff]at*
 rcases h1 with h1 | ⟨e1,h1⟩
 ·rcases h2 with h2 | ⟨e2,h2⟩
  ·left;omega
  ·left;omega
 ·rcases h2 with h2 | ⟨e2,h2⟩
  ·left;omega
  ·right;exact⟨by omega,bl_trans h1 h2⟩
theorem kl_total {x y:Key}(h:x≠y):kl x y=true∨kl y x=true:=by
 rw[kl_iff,kl_iff]
 obtain⟨a,f⟩:=x
 obtain⟨b,g⟩:=y
 simp only
 by_cases e:a=b
 ·subst e
  rcases bl_total (x:=f) (y:=g) (fun e=>h (by rw[e]))with h1 | h1
  ·exact .inl (.inr ⟨rfl,h1⟩)
  ·exact .inr (.inr ⟨rfl,h1⟩)
 ·rcases Int.lt_or_gt_of_ne e with h1 | h1
  ·exact .inl (.inl h1)
  ·exact .inr (.inl h1)
theorem kl_asymm {x y:Key}(h:kl x y=true):¬kl y x=true:=fun h2=>kl_irrefl x (kl_trans h h2)
theorem kl_ne {x y:Key}(h:kl x y=true):x≠y:=fun e=>by subst e;exact kl_irrefl x h
def ordK (x y:Key):Int:=if kl x y=true then -1 else if x=y then 0 else 1
theorem ordK_lt {x y:Key}:ordK x y<0↔kl x y=true:=by unfold ordK;split<;>rename_i h<;>simp[h]<;>split<;>decide
theorem ordK_zero {x y:Key}:ordK x y=0↔x=y:=by
 unfold ordK
 by_cases h:kl x y=true
 ·rw[if_pos h];exact⟨fun h=>(by cases h),fun e=>absurd e (kl_ne h)⟩
 ·rw[if_neg h]
  by_cases e:x=y
  ·rw[if_pos e];exact⟨fun _=>e,fun _=>rfl⟩
  ·rw[if_neg e];exact⟨fun h=>(by cases h),fun h=>absurd h e⟩
theorem toL (s:ByteArray):s.toList=s.data.toList:=Lib.toList_data s
theorem bs_inj {f g:ByteArray}(h:f.toList=g.toList):f=g:=by
 rw[toL,toL]at h
 obtain⟨⟨l⟩⟩:=f
 obtain⟨⟨m⟩⟩:=g
 simp only at h
 rw[h]
theorem nan_any (x:Int)(w:World):Calls Tryd.prog 48 #[.int .i64 x] w fun e w'=>e= .returned (.bool false)∧w=w':=by
 have h:(x != x)=false:=by simp
 go_enter Tryd.func48,Tryd.ntmps48
 go_wp2
 go_ret
 exact⟨rfl,rfl⟩
def cmpI (x y:Int):Int:=if x<y then -1 else if x=y then 0 else 1
theorem cmpi_any (x y:Int)(w:World):Calls Tryd.prog 34 #[.int .i64 x,.int .i64 y] w fun e w'=>e= .returned (.int .i64 (cmpI x y))∧w=w':=by
 have HN:=Lib.hid (fun z W=>nan_any z W)
 unfold cmpI
 rcases Int.lt_trichotomy x y with h | rfl | h
 ·rw[if_pos h]
  go_enter Tryd.func34,Tryd.ntmps34
  go_wp2_with fail
  refine(HN.out _ _).mono ?_
  rintro e w1 ⟨rfl,rfl⟩
  go_wp2_with fail
  refine(HN.out _ _).mono ?_
  rintro e w1 ⟨rfl,rfl⟩
  go_wp2_with fail
  go_ret
  exact⟨rfl,rfl⟩
 ·rw[if_neg (Int.lt_irrefl x),if_pos rfl]
  go_enter Tryd.func34,Tryd.ntmps34
  go_wp2_with fail
  refine(HN.out _ _).mono ?_
  rintro e w1 ⟨rfl,rfl⟩
  go_wp2_with fail
  refine(HN.out _ _).mono ?_
  rintro e w1 ⟨rfl,rfl⟩
  go_wp2_with fail
  go_ret
  exact⟨rfl,rfl⟩
 ·have h2:¬x<y:=by omega
  have h3:x≠y:=by omega
  rw[if_neg h2,if_neg h3]
  go_enter Tryd.func34,Tryd.ntmps34
  go_wp2_with fail
  refine(HN.out _ _).mono ?_
  rintro e w1 ⟨rfl,rfl⟩
  go_wp2_with fail
  refine(HN.out _ _).mono ?_
  rintro e w1 ⟨rfl,rfl⟩
  go_wp2_with fail
  go_ret
  exact⟨rfl,rfl⟩
theorem cmpstr_any (a b:ByteArray)(w:World):Calls Tryd.prog 49 #[.string a,.string b] w fun e w'=>e= .returned (.int .i64 (Lib.compareBytes a.data.toList b.data.toList))∧w=w':=by
 go_enter Tryd.func49,Tryd.ntmps49
 go_wp2_with fail
 rw[run_callFunc_extern Tryd.func74 (by kernel_rfl) (by kernel_rfl) (by kernel_rfl) (e:=Extern.BytealgCompare.compare) (by kernel_rfl),Lib.run_compareString]
 simp only[Result.andThen]
 rw[Oper.upon_value]
 go_wp2
 go_ret
 exact⟨rfl,rfl⟩
theorem scmp_any (a b:ByteArray)(w:World):Calls Tryd.prog 35 #[.string a,.string b] w fun e w'=>e= .returned (.int .i64 (Lib.compareBytes a.data.toList b.data.toList))∧w=w':=by
 have HC:=Lib.hid (cmpstr_any a b w)
 go_enter Tryd.func35,Tryd.ntmps35
 go_wp2_with fail
 refine HC.out.mono ?_
 rintro e w1 ⟨rfl,rfl⟩
 go_wp2_with fail
 go_ret
 exact⟨rfl,rfl⟩
theorem order_any (a:Int)(f:ByteArray)(b:Int)(g:ByteArray)(w:World):Calls Tryd.prog 23 #[.int .i64 a,.string f,.int .i64 b,.string g] w fun e w'=>e= .returned (.int .i64 (ordK (a,f.toList) (b,g.toList)))∧w=w':=by
 have HI:=Lib.hid (cmpi_any a b w)
 have HS:=Lib.hid (scmp_any f g w)
 by_cases hab:a=b
 ·subst hab
  have e1:cmpI a a=0:=by unfold cmpI;rw[if_neg (Int.lt_irrefl a),if_pos rfl]
  have e2:ordK (a,f.toList) (a,g.toList)=Lib.compareBytes f.data.toList g.data.toList:=by
   rw[cmpB_eq,←toL,←toL]
   unfold ordK
   by_cases h:Op.bytesLess f.toList g.toList=true
   ·have h2:kl (a,f.toList) (a,g.toList)=true:=kl_iff.2 (.inr ⟨rfl,h⟩)
    rw[if_pos h,if_pos h2]
   ·have h2:¬kl (a,f.toList) (a,g.toList)=true:=fun h'=>by
     rcases kl_iff.1 h' with h' | ⟨_,h'⟩
     ·exact absurd h' (Int.lt_irrefl _)
     ·exact h h'
    rw[if_neg h,if_neg h2]
    by_cases h2:f.toList=g.toList
    ·rw[if_pos h2,if_pos (by rw[h2])]
    ·rw[if_neg h2,if_neg (fun e=>h2 (by injection e))]
  rw[e1]at HI
  rw[e2]
  clear e1 e2
  generalize Lib.compareBytes f.data.toList g.data.toList=z at HS
  go_enter Tryd.func23,Tryd.ntmps23
  go_wp2_with fail
  refine HI.out.mono ?_
  rintro e w1 ⟨rfl,rfl⟩
  go_wp2_with fail
  refine HS.out.mono ?_
  rintro e w1 ⟨rfl,rfl⟩
  go_wp2_with fail
  go_ret
  exact⟨rfl,rfl⟩
 ·have e2:ordK (a,f.toList) (b,g.toList)=cmpI a b:=by
   unfold ordK cmpI
   by_cases h:a<b
   ·have h2:kl (a,f.toList) (b,g.toList)=true:=kl_iff.2 (.inl h)
    rw[if_pos h,if_pos h2]
   ·have h2:¬kl (a,f.toList) (b,g.toList)=true:=fun h'=>by
     rcases kl_iff.1 h' with h' | ⟨h',_⟩
     ·exact h h'
     ·exact hab h'
    rw[if_neg h,if_neg h2,if_neg hab,if_neg (fun e=>hab (by injection e))]
  have e3:cmpI a b≠0:=by
   unfold cmpI
   by_cases h:a<b
   ·rw[if_pos h];decide
   ·rw[if_neg h,if_neg hab];decide
  rw[e2]
  have e4:(cmpI a b != 0)=true:=by simp[e3]
  clear e2
  generalize cmpI a b=z at HI e3 e4
  go_enter Tryd.func23,Tryd.ntmps23
  go_wp2_with fail
  refine HI.out.mono ?_
  rintro e w1 ⟨rfl,rfl⟩
  go_wp2_with fail
  go_ret
  exact⟨rfl,rfl⟩
end
section
open Go.RowKit
structure HC where
 a:Int
 f:ByteArray
 v:Int
def hc0:HC:=⟨0,ByteArray.empty,0⟩
def hkey (c:HC):Key:=(c.a,c.f.toList)
theorem HC.ext' {x y:HC}(h:hkey x=hkey y)(hv:x.v=y.v):x=y:=by
 obtain⟨a,f,v⟩:=x
 obtain⟨b,g,u⟩:=y
 simp only[hkey,Prod.mk.injEq]at h hv
 obtain⟨rfl,h⟩:=h
 obtain rfl:=bs_inj h
 rw[hv]
def hcells (xs:List HC):List Value:=xs.flatMap fun x=>[.int .i64 x.a,.string x.f,.int .i64 x.v]
theorem hcells_append (xs ys:List HC):hcells (xs ++ ys)=hcells xs ++ hcells ys:=by simp[hcells]
theorem hcells_len:∀xs:List HC,(hcells xs).length=xs.length*3
 | []=>rfl
 | x :: xs=>by
   have:=hcells_len xs
   simp only[hcells,List.flatMap_cons,List.length_append,List.length_cons,List.length_nil]at this⊢
   omega
theorem hcells_one:∀xs:List HC,∀u∈hcells xs,u.oneCell'=true:=fun xs u hu=>by
 obtain⟨x,_,h⟩:=List.mem_flatMap.1 hu
 simp only[List.mem_cons,List.not_mem_nil,or_false]at h
 rcases h with rfl | rfl | rfl<;>rfl
theorem hcells_get:∀(xs:List HC) (i:Nat),i<xs.length→(hcells xs)[i*3]? =some (.int .i64 (xs.getD i hc0).a)∧(hcells xs)[i*3+1]? =some (.string (xs.getD i hc0).f)∧(hcells xs)[i*3+2]? =some (.int .i64 (xs.getD i hc0).v)
 | [],i,h=>absurd h (Nat.not_lt_zero i)
 | x :: xs,0,_=>⟨rfl,rfl,rfl⟩
 | x :: xs,i+1,h=>by
   have:=hcells_get xs i (by simpa using h)
   rw[show(i+1)*3=i*3+3 by omega,show i*3+3+1=i*3+1+3 by omega,show i*3+3+2=i*3+2+3 by omega]
   exact this
def HLies (B:Nat)(w:World)(a:Option Addr)(xs:List HC):Prop:=
 ∀i,i<xs.length→∃b off,a=some ⟨b,off,none⟩∧b<B∧w.cell? ⟨b,off+i*3,none⟩=some (.int .i64 (xs.getD i hc0).a)∧w.cell? ⟨b,off+i*3+1,none⟩=some (.string (xs.getD i hc0).f)∧w.cell? ⟨b,off+i*3+2,none⟩=some (.int .i64 (xs.getD i hc0).v)
theorem HLies.mono {B B':Nat}{w:World}{a:Option Addr}{xs:List HC}(h:HLies B w a xs)(hb:B≤B'):HLies B' w a xs:=fun i hi=>by
 obtain⟨b,off,ha,hlt,h1⟩:=h i hi
 exact⟨b,off,ha,Nat.lt_of_lt_of_le hlt hb,h1⟩
theorem HLies.below {B:Nat}{w w':World}{a:Option Addr}{xs:List HC}(h:HLies B w a xs)(hb:Below B w w'):HLies B w' a xs:=fun i hi=>by
 obtain⟨b,off,ha,hlt,h1,h2,h3⟩:=h i hi
 exact⟨b,off,ha,hlt,(hb.cell (p:=⟨b,_,none⟩) hlt).trans h1,(hb.cell (p:=⟨b,_,none⟩) hlt).trans h2,(hb.cell (p:=⟨b,_,none⟩) hlt).trans h3⟩
theorem HLies.up {w w':World}{a:Option Addr}{xs:List HC}(h:HLies w.heap.size w a xs)(hb:Below w.heap.size w w'):HLies w'.heap.size w' a xs:=(h.below hb).mono hb.size
theorem HLies.cells {B:Nat}{w:World}{a:Option Addr}{xs:List HC}(h:HLies B w a xs)(hpos:0<xs.length):∃b off,a=some ⟨b,off,none⟩∧b<B∧∀j u,(hcells xs)[j]? =some u→w.cell? ⟨b,off+j,none⟩=some u:=by
 obtain⟨b,off,ha,hlt,_⟩:=h 0 hpos
 refine⟨b,off,ha,hlt,fun j u hu=> ?_⟩
 have hj:j<xs.length*3:=by have:=(List.getElem?_eq_some_iff.1 hu).1;rwa [hcells_len]at this
 obtain⟨b',off',ha',_,h1,h2,h3⟩:=h (j / 3) (by omega)
 rw[ha]at ha'
 obtain⟨rfl,rfl⟩:b=b'∧off=off':=by injection ha' with e;injection e with e1 e2 e3;exact⟨e1,e2⟩
 obtain⟨g1,g2,g3⟩:=hcells_get xs (j / 3) (by omega)
 rcases(show j=j / 3*3∨j=j / 3*3+1∨j=j / 3*3+2 by omega)with e | e | e
 ·rw[e]at hu
  rw[g1]at hu
  rw[show off+j=off+j / 3*3 by omega,h1,hu]
 ·rw[e]at hu
  rw[g2]at hu
  rw[show off+j=off+j / 3*3+1 by omega,h2,hu]
 ·rw[e]at hu
  rw[g3]at hu
  rw[show off+j=off+j / 3*3+2 by omega,h3,hu]
theorem lt_of_some {W:World}{b:Nat}{o:Obj}(h:W.heap[b]? =some o):b<W.heap.size:=(Array.getElem?_eq_some_iff.1 h).1
theorem hlies_new (w:World)(xs:List HC)(t:TypeId):HLies (w.heap.size+1) (w.alloc (.cells (hcells xs).toArray t)) (some ⟨w.heap.size,0,none⟩) xs:=fun i hi=>by
 have hn:=heap_alloc_new w (.cells (hcells xs).toArray t)
 obtain⟨g1,g2,g3⟩:=hcells_get xs i hi
 refine⟨w.heap.size,0,rfl,by omega, ?_, ?_, ?_⟩
 ·rw[cell_of_row _ _ _ _ _ _ hn];simpa using g1
 ·rw[cell_of_row _ _ _ _ _ _ hn];simpa using g2
 ·rw[cell_of_row _ _ _ _ _ _ hn];simpa using g3
theorem run_append_h {P:Program}{w:World}(B:Nat)(t ty e:TypeId)(i:TypeInfo)(z:Value)(ht:P.underlying t=some (.slice e))(hi:P.info? e=some i)(hz:i.zero=some z)(hs:i.size=3)(hby:i.bytes=32)(hzs:z.cells.size=3)
 (v:Value) (n:Nat) (xs:List HC) (hn:xs.length=n) (hown:w.ownsRow B e 3 v n (hcells xs)) (hB:B≤w.heap.size) (a:Option Addr) (m cap:Nat) (ys:List HC) (hm:ys.length=m)
 (hl:HLies w.heap.size w a ys) (hsz:(n+m)*32≤140737488355328):
 ∃v' w',(Builtin.append_ #[t,t] ty #[v,.slice a m cap]).run P w= .ok v' w'∧w'.ownsRow B e 3 v' (n+m) (hcells (xs ++ ys))∧w.grownBy w' v.ownBlock∧Below B w w':=by
 have hvb:=fun k (hk:v.ownBlock=some k)=>(World.ownsRow.lt hown k hk).1
 by_cases h0:m=0
 ·subst h0
  have hy:ys=[]:=List.length_eq_zero_iff.1 hm
  subst hy
  refine⟨v,w, ?_,by simpa using hown,⟨rfl,rfl,rfl,Nat.le_refl _,fun _ _ _=>rfl⟩,Below.refl _ _⟩
  have hf:∀ad:Addr,(Builtin.firstCells 3 0 (.slice (some ad) 0 cap)).run P w= .ok #[] w:=fun ad=>run_firstCells_some w 3 0 ad 0 cap [] (by simp) (fun j u h=>by cases h)
  have hf0:=run_firstCells_none (P:=P) w 3 0 0 cap
  rcases hown.2 with ⟨rfl,rfl⟩ | ⟨g,cap',cur,rfl,_,_,hnc,_⟩
  ·cases a<;>simp[Builtin.append_,run_underlying ht,sizeOf,typeInfo,hi,hs,Builtin.lenOf,hf,hf0]
  ·cases a<;>simp[Builtin.append_,run_underlying ht,sizeOf,typeInfo,hi,hs,Builtin.lenOf,hf,hf0,hnc,storeCells]
 ·obtain⟨b,off,rfl,_,hc⟩:=hl.cells (by omega)
  obtain⟨g,cap',w',hr,h2,h3,h4,h5⟩:=run_append_lies (P:=P) w t ty B e i z 3 32 ht hi hz hs hby hzs (by decide) v n (hcells xs) hown ⟨b,off,none⟩ m cap (hcells ys) (by rw[hcells_len];omega)
   (fun j u hu=>by rw[show(⟨b,off,none⟩:Addr).add j=⟨b,off+j,none⟩ by unfold Addr.add;split<;>simp_all];exact hc j u hu)
   (hcells_one ys) (by omega) (by unfold maxLen;omega) hsz hB _ rfl
  exact⟨_,w',hr,by rw[hcells_append];exact h2,h3,(Below.refl B w).grown h3 hB hvb⟩
theorem own_hlies {B:Nat}{e:TypeId}{xs:List HC}{v:Value}{n:Nat}{w:World}(hn:xs.length=n)(hr:w.ownsRow B e 3 v n (hcells xs)):∃a cap,v= .slice a n cap∧n≤cap∧cap≤9223372036854775807∧HLies w.heap.size w a xs∧(∀b off s,a=some ⟨b,off,s⟩→B≤b):=by
 subst hn
 have hc:=fun g=>World.ownsRow.cells hr (g:=g)
 have hlt:=World.ownsRow.lt hr
 obtain⟨_,h1 | ⟨g,cap,cur,hv,h2⟩⟩:=hr
 ·refine⟨none,0,by rw[h1.1,h1.2],by omega,by omega,fun i hi=> ?_,fun _ _ _ h=>by cases h⟩
  omega
 ·subst hv
  have hcp:=h2.2.2
  have hcm:cap≤9223372036854775807:=hcp.2.1
  refine⟨some ⟨g,0,none⟩,cap,rfl,hcp.1,hcm,fun i hi=> ?_,fun b off s h=>by injection h with h;injection h with h1;rw[←h1];exact h2.1⟩
  obtain⟨g1,g2,g3⟩:=hcells_get xs i hi
  have c1:=hc g rfl _ _ g1
  have c2:=hc g rfl _ _ g2
  have c3:=hc g rfl _ _ g3
  have ea:∀k,(⟨g,0,none⟩:Addr).add k=⟨g,0+k,none⟩:=fun k=>by unfold Addr.add;split<;>simp_all
  rw[ea]at c1 c2 c3
  exact⟨g,0,rfl,(hlt g rfl).2,c1,c2,c3⟩
theorem Tryd.infoCell:(Tryd.prog.info? 45).map (fun i=>(i.zero,i.size,i.bytes))=some (some (.agg #[.int .i64 0,.string ByteArray.empty,.int .i64 0]),3,32):=by kernel_rfl
theorem Tryd.infoShare:(Tryd.prog.info? 43).map (fun i=>(i.zero,i.size,i.bytes))=some (some (.agg #[.int .i64 0,.string ByteArray.empty,.int .i64 0]),3,32):=by kernel_rfl
theorem info_parts {p:Option TypeInfo}{a:Option Value}{b c:Nat}(h:p.map (fun i=>(i.zero,i.size,i.bytes))=some (a,b,c)):∃i,p=some i∧i.zero=a∧i.size=b∧i.bytes=c:=by
 cases p with
 | none=>cases h
 | some i=>simp at h;exact⟨i,rfl,h.1,h.2.1,h.2.2⟩
theorem growShare_any (n:Nat)(w:World)(hn:n≤1000000):
 Calls Tryd.prog 32 #[.slice none 0 0,.int .i64 n] w fun e w'=>∃v,e= .returned v∧w'.ownsRow w.heap.size 43 3 v 0 []∧Below w.heap.size w w':=by
 obtain⟨i0,hi,hz0,hz1,hz2⟩:=info_parts Tryd.infoShare
 by_cases h0:n=0
 ·subst h0
  go_enter Tryd.func32,Tryd.ntmps32
  go_wp2_with fail
  go_ret
  exact⟨_,rfl,World.ownsRow_nil _ _ _ _,Below.refl _ _⟩
 ·have hrz:∀ty,(Builtin.append_ #[35,3] ty #[.slice none 0 0,.int .i64 n]).run Tryd.prog w= .ok (.slice (some ⟨w.heap.size,0,none⟩) n (grownCap w n 0 43)) (w.drew.alloc (.cells (Builtin.zeroCells (Value.agg #[.int .i64 0,.string ByteArray.empty,.int .i64 0]).cells n ++ Builtin.zeroCells (Value.agg #[.int .i64 0,.string ByteArray.empty,.int .i64 0]).cells (grownCap w n 0 43 - n)) 43)):=fun ty=>by
   have h:=Lib.run_append_grow_zeros w 35 3 ty 43 i0 _ .i64 .i64 Tryd.underlying35 Tryd.underlying3 hi hz0 none 0 0 [] (run_firstCells_none w.drew i0.size 0 0 0) n (by omega) (by omega) (by omega) (by omega) (by rw[hz2];omega)
    (by have:=nextslicecap_le (need:=0+n) (old:=0) (by omega);rw[hz2];omega)
   simpa using h
  have h1:¬((n:Int)<0):=by omega
  have h4:(n:Int) > 0:=by omega
  have h5:(0:Int)<(n:Int):=by omega
  have HG:Hid (n≤grownCap w n 0 43∧grownCap w n 0 43≤maxLen):=⟨grownCap_ge w _ _ _,grownCap_le_maxLen w n 0 _ (by unfold maxLen;omega)⟩
  generalize grownCap w n 0 43=G at hrz HG
  go_enter Tryd.func32,Tryd.ntmps32
  go_wp2_with (at_builtin;refine Lib.wpList_append_run _ rfl _ _ _ _ rfl _ _ rfl rfl _ _ (hrz _) ?_)
  all_goals
   go_ret
   refine⟨_,rfl,World.ownsRow_made w.drew _ G (Nat.le_refl _) HG.out.2 ?_,(Below.refl _ w).drew.alloc (Nat.le_refl _) _⟩
   have:=HG.out.1
   simp[size_zeroCells,Value.cells]
   omega
theorem concat2Share_any (g:Nat)(a1:Option Addr)(m1 cap1:Nat)(x1:List HC)(a2:Option Addr)(m2 cap2:Nat)(x2:List HC)(w:World)(hm1:x1.length=m1)(hk1:m1≤40000)(hl1:HLies w.heap.size w a1 x1)(hg1:w.cell? ⟨g,0,none⟩=some (.slice a1 m1 cap1))(hm2:x2.length=m2)(hk2:m2≤40000)(hl2:HLies w.heap.size w a2 x2)(hg2:w.cell? ⟨g,1,none⟩=some (.slice a2 m2 cap2))(hgb:g<w.heap.size):
 Calls Tryd.prog 20 #[.slice (some ⟨g,0,none⟩) 2 2] w fun e w'=>∃v,e= .returned v∧w'.ownsRow w.heap.size 43 3 v (m1+m2) (hcells (x1 ++ x2))∧Below w.heap.size w w':=by
 obtain⟨i0,hi,hz0,hz1,hz2⟩:=info_parts Tryd.infoShare
 have HL1:=Lib.hid hl1
 have HM1:=Lib.hid hm1
 have HL2:=Lib.hid hl2
 have HM2:=Lib.hid hm2
 have hw1:IntKind.i64.wrap (0+(m1:Int))=(m1:Int):=by rw[Int.zero_add];exact IntWalk.i64_in _ (by omega)
 have hn1:¬((m1:Int)<0):=by omega
 have hw2:IntKind.i64.wrap ((m1:Int)+(m2:Int))=((m1+m2:Nat):Int):=by rw[←Int.natCast_add];exact IntWalk.i64_in _ (by omega)
 have hn2:¬(((m1+m2:Nat):Int)<0):=by omega
 have HGR:=Lib.hid (growShare_any (m1+m2) w (by omega))
 have e1:=hg1
 have e2:=hg2
 clear hl1 hm1 hl2 hm2
 go_enter Tryd.func20,Tryd.ntmps20
 go_wp2_with fail
 refine wp_loop_rounds 3 ?_
 rw[rounds_succ]
 go_wp2_with fail
 rw[rounds_succ]
 go_wp2_with fail
 rw[rounds_succ]
 go_wp2_with fail
 refine HGR.out.mono ?_
 rintro e w1 ⟨v0,rfl,ho1,hb1⟩
 have q1:=(hb1.cell (p:=⟨g,0,none⟩) hgb).trans hg1
 have q2:=(hb1.cell (p:=⟨g,1,none⟩) hgb).trans hg2
 have B1:=Lib.hid hb1
 have O1:=Lib.hid ho1
 clear hb1 ho1 HGR hg1 e1 hg2 e2
 go_wp2_with fail
 refine wp_loop_rounds 3 ?_
 rw[rounds_succ]
 obtain⟨v1,w2,hr1,ho1,hgr1,hb1⟩:=run_append_h (P:=Tryd.prog) (w:=w1) w.heap.size 35 35 43 i0 _ Tryd.underlying35 hi hz0 hz1 hz2 rfl v0 (0) ([]) (by simp[List.length_nil]) O1.out B1.out.size a1 m1 cap1 x1 HM1.out ((HL1.out.below B1.out).mono B1.out.size) (by omega)
 have B2:=Lib.hid (B1.out.trans hb1)
 have O2:=Lib.hid ho1
 have q2:=(hb1.cell (p:=⟨g,1,none⟩) hgb).trans q2
 clear hb1 ho1 hgr1
 go_wp2_with (at_builtin;refine Lib.wpList_append_run _ rfl _ _ _ _ rfl _ _ rfl rfl _ _ hr1 ?_)
 rw[rounds_succ]
 obtain⟨v2,w3,hr2,ho2,hgr2,hb2⟩:=run_append_h (P:=Tryd.prog) (w:=w2) w.heap.size 35 35 43 i0 _ Tryd.underlying35 hi hz0 hz1 hz2 rfl v1 (0+m1) ([] ++ x1) (by simp[HM1.out]) O2.out B2.out.size a2 m2 cap2 x2 HM2.out ((HL2.out.below B2.out).mono B2.out.size) (by omega)
 have B3:=Lib.hid (B2.out.trans hb2)
 have O3:=Lib.hid ho2
 clear hb2 ho2 hgr2
 go_wp2_with (at_builtin;refine Lib.wpList_append_run _ rfl _ _ _ _ rfl _ _ rfl rfl _ _ hr2 ?_)
 rw[rounds_succ]
 go_wp2_with fail
 go_ret
 exact⟨_,rfl,by simpa using O3.out,B3.out⟩
end
section
open Go.RowKit
def Stand (hs:List HC):Prop:=∀i,i+1<hs.length→kl (hkey (hs.getD i hc0)) (hkey (hs.getD (i+1) hc0))=true
theorem Stand.lt {hs:List HC}(h:Stand hs):∀ {i j:Nat},i<j→j<hs.length→kl (hkey (hs.getD i hc0)) (hkey (hs.getD j hc0))=true:=by
 intro i j hij
 induction hij with
 | refl=>intro hj;exact h i hj
 | step hij ih=>intro hj;exact kl_trans (ih (by omega)) (h _ hj)
structure FindIs (hs:List HC)(k:Key)(i:Nat)(b:Bool):Prop where
 le:i≤hs.length
 lo:∀q,q<i→kl (hkey (hs.getD q hc0)) k=true
 hi:∀q,i≤q→q<hs.length→¬kl (hkey (hs.getD q hc0)) k=true
 is:b=true↔i<hs.length∧hkey (hs.getD i hc0)=k
theorem fcmp_any (c:HC)(a:Int)(f:ByteArray)(g:Nat)(w:World)(hg:w.cell? ⟨g,0,none⟩=some (.string f)):
 Calls Tryd.prog 72 #[.agg #[.int .i64 c.a,.string c.f,.int .i64 c.v],.int .i64 a,.pointer (some ⟨g,0,none⟩)] w fun e w'=>e= .returned (.int .i64 (ordK (hkey c) (a,f.toList)))∧Below w.heap.size w w':=by
 obtain⟨x,y,z⟩:=c
 have HO:=Lib.hid (fun W=>order_any x y a f W)
 have hglt:g<w.heap.size:=by
  rcases Nat.lt_or_ge g w.heap.size with h | h
  ·exact h
  ·simp[World.cell?,Array.getElem?_eq_none h]at hg
 have HB:Hid (Below w.heap.size w (w.alloc (.cells #[.int .i64 x,.string y,.int .i64 z] 45))):=(Below.refl _ w).alloc (Nat.le_refl _) _
 have hg2:=(HB.out.cell (p:=⟨g,0,none⟩) hglt).trans hg
 go_enter Tryd.func72,Tryd.ntmps72
 go_wp2_with fail
 refine(HO.out _).mono ?_
 rintro e w1 ⟨rfl,rfl⟩
 go_wp2_with fail
 go_ret
 exact⟨rfl,HB.out⟩
def FindEnd (hs:List HC)(k:Key)(w:World)(e:Ending)(w':World):Prop:=∃(i:Nat) (b:Bool),e= .returned (.tuple #[.int .i64 i,.bool b])∧FindIs hs k i b∧Below w.heap.size w w'
theorem bsearch_any (hs:List HC)(ad:Option Addr)(n cap:Nat)(a:Int)(f:ByteArray)(g:Nat)(w:World)(hn:hs.length=n)(hnm:n≤1000000)(hl:HLies w.heap.size w ad hs)(hst:Stand hs)(hg:w.cell? ⟨g,0,none⟩=some (.string f))(hgl:g<w.heap.size):
 Calls Tryd.prog 71 #[.slice ad n cap,.int .i64 a,.func (.func 72) #[] #[.pointer (some ⟨g,0,none⟩)]] w (FindEnd hs (a,f.toList) w):=by
 have HF:=Lib.hid (fun c W (hb:Below w.heap.size w W)=>fcmp_any c a f g W ((hb.cell (p:=⟨g,0,none⟩) hgl).trans hg))
 have HN:=Lib.hid hn
 have HL:=Lib.hid hl
 have HS:=Lib.hid hst
 clear hn hl hst hg
 go_enter Tryd.func71,Tryd.ntmps71
 go_wp2_with fail
 go_loopw [9,10] (fun i j wr=>∃p q:Nat,p≤q∧q≤n∧i= .int .i64 p∧j= .int .i64 q∧Hid (∀r,r<p→kl (hkey (hs.getD r hc0)) (a,f.toList)=true)∧Hid (∀r,q≤r→r<n→¬kl (hkey (hs.getD r hc0)) (a,f.toList)=true)∧Hid (Below w.heap.size w wr)) (fun i j _=>(intOf j - intOf i).toNat)
 case atStart=>exact⟨0,n,Nat.zero_le _,Nat.le_refl _,rfl,rfl,fun r hr=>absurd hr (Nat.not_lt_zero r),fun r h1 h2=>by omega,Below.refl _ _⟩
 case round=>
  obtain⟨p,q,hpq,hq,rfl,rfl,hlo,hhi,hb⟩:=hrel
  by_cases hlt:p<q
  ·have hlti:(p:Int)<(q:Int):=by omega
   have hm1:Hid (p≤(p+q) / 2∧(p+q) / 2<q):=⟨by omega,by omega⟩
   have hw1:IntKind.i64.wrap ((p:Int)+(q:Int))=(p:Int)+(q:Int):=IntWalk.i64_in _ (by omega)
   have hi1:(p+q) / 2<n:=by omega
   obtain⟨b3,off3,rfl,hb3,c1,c2,c3⟩:=HL.out ((p+q) / 2) (by rw[HN.out];exact hi1)
   have c1:=(hb.out.cell (p:=⟨b3,_,none⟩) hb3).trans c1
   have c2:=(hb.out.cell (p:=⟨b3,_,none⟩) hb3).trans c2
   have c3:=(hb.out.cell (p:=⟨b3,_,none⟩) hb3).trans c3
   have HC:=Lib.hid (HF.out (hs.getD ((p+q) / 2) hc0) wr hb.out)
   have HLO:Hid (kl (hkey (hs.getD ((p+q) / 2) hc0)) (a,f.toList)=true→∀r,r<(p+q) / 2+1→kl (hkey (hs.getD r hc0)) (a,f.toList)=true):=fun h r hr=>by
    by_cases e:r=(p+q) / 2
    ·rw[e];exact h
    ·exact kl_trans (HS.out.lt (show r<(p+q) / 2 by omega) (by rw[HN.out];exact hi1)) h
   have HHI:Hid (¬kl (hkey (hs.getD ((p+q) / 2) hc0)) (a,f.toList)=true→∀r,(p+q) / 2≤r→r<n→¬kl (hkey (hs.getD r hc0)) (a,f.toList)=true):=fun h r h1 h2 h3=>by
    by_cases e:r=(p+q) / 2
    ·rw[e]at h3;exact h h3
    ·exact h (kl_trans (HS.out.lt (show(p+q) / 2<r by omega) (by rw[HN.out];exact h2)) h3)
   generalize hs.getD ((p+q) / 2) hc0=c at c1 c2 c3 HC HLO HHI
   have HOL:=Lib.hid (ordK_lt (x:=hkey c) (y:=(a,f.toList)))
   have HC:Hid (Calls Tryd.prog 72 #[.agg #[.int .i64 c.a,.string c.f,.int .i64 c.v],.int .i64 a,.pointer (some ⟨g,0,none⟩)] wr fun e w'=>e= .returned (.int .i64 (ordK (hkey c) (a,f.toList)))∧Below wr.heap.size wr w'):=HC.out
   generalize ordK (hkey c) (a,f.toList)=o at HC HOL
   clear HS
   go_wp2_with fail
   refine HC.out.mono ?_
   rintro e w5 ⟨rfl,hb5⟩
   have BW:=Lib.hid (hb.out.trans (hb5.mono hb.out.size))
   clear hb5 HC HF hb
   by_cases ho:o<0
   ·have HL2:=Lib.hid (HLO.out (HOL.out.1 ho))
    clear HLO HHI HOL
    go_wp2_with fail
    go_roundw
    case rel=>exact⟨(p+q) / 2+1,q,by have:=hm1.out;omega,hq,by go_num,rfl,HL2,hhi,BW⟩
    case measure=>have:=hm1.out;simp[intOf];omega
   ·have HH2:=Lib.hid (HHI.out (fun h=>ho (HOL.out.2 h)))
    clear HLO HHI HOL
    go_wp2_with fail
    go_roundw
    case rel=>exact⟨p,(p+q) / 2,hm1.out.1,by have:=hm1.out;omega,rfl,by go_num,hlo,HH2,BW⟩
    case measure=>have:=hm1.out;simp[intOf];omega
  ·obtain rfl:p=q:=by omega
   by_cases hpn:p<n
   ·have hpni:(p:Int)<(n:Int):=by omega
    obtain⟨b3,off3,rfl,hb3,c1,c2,c3⟩:=HL.out p (by rw[HN.out];exact hpn)
    have c1:=(hb.out.cell (p:=⟨b3,_,none⟩) hb3).trans c1
    have c2:=(hb.out.cell (p:=⟨b3,_,none⟩) hb3).trans c2
    have c3:=(hb.out.cell (p:=⟨b3,_,none⟩) hb3).trans c3
    have HC:=Lib.hid (HF.out (hs.getD p hc0) wr hb.out)
    have HE:Hid (∀z:Bool,(z=true↔ordK (hkey (hs.getD p hc0)) (a,f.toList)=0)→FindIs hs (a,f.toList) p z):=fun z hz=>
     ⟨by rw[HN.out];exact hq,hlo.out,fun r h1 h2=>hhi.out r h1 (by rw[HN.out]at h2;exact h2),by rw[hz,ordK_zero,HN.out];exact⟨fun h=>⟨hpn,h⟩,fun h=>h.2⟩⟩
    generalize hs.getD p hc0=c at c1 c2 c3 HC HE
    have HC:Hid (Calls Tryd.prog 72 #[.agg #[.int .i64 c.a,.string c.f,.int .i64 c.v],.int .i64 a,.pointer (some ⟨g,0,none⟩)] wr fun e w'=>e= .returned (.int .i64 (ordK (hkey c) (a,f.toList)))∧Below wr.heap.size wr w'):=HC.out
    generalize ordK (hkey c) (a,f.toList)=o at HC HE
    clear HS hlo hhi
    go_wp2_with fail
    refine HC.out.mono ?_
    rintro e w5 ⟨rfl,hb5⟩
    have BW:=Lib.hid (hb.out.trans (hb5.mono hb.out.size))
    have HE2:=Lib.hid (HE.out (o == 0) (by simp))
    clear hb5 HC HF hb HE
    go_wp2_with fail
    go_ret2
    exact⟨p,_,rfl,HE2.out,BW.out⟩
   ·have hpni:¬(p:Int)<(n:Int):=by omega
    have HE:Hid (FindIs hs (a,f.toList) p false):=⟨by rw[HN.out];exact hq,hlo.out,fun r h1 h2=>hhi.out r h1 (by rw[HN.out]at h2;exact h2),⟨fun h=>(by cases h),fun h=>by have:=h.1;rw[HN.out]at this;omega⟩⟩
    clear HF HS hlo hhi
    go_wp2_with fail
    go_ret2
    exact⟨p,_,rfl,HE.out,hb.out⟩
theorem find_any (hs:List HC)(ad:Option Addr)(n cap:Nat)(a:Int)(f:ByteArray)(w:World)(hn:hs.length=n)(hnm:n≤1000000)(hl:HLies w.heap.size w ad hs)(hst:Stand hs):
 Calls Tryd.prog 45 #[.slice ad n cap,.int .i64 a,.string f] w (FindEnd hs (a,f.toList) w):=by
 have hB:Below w.heap.size w (w.alloc (.cells #[.string f] 9)):=(Below.refl _ w).alloc (Nat.le_refl _) _
 have hn2:=heap_alloc_new w (.cells #[.string f] 9)
 have HS:=Lib.hid (bsearch_any hs ad n cap a f w.heap.size (w.alloc (.cells #[.string f] 9)) hn hnm (hl.up hB) hst ((cell_of_row _ _ _ _ _ _ hn2).trans rfl) (lt_of_some hn2))
 have HB:=Lib.hid hB
 clear hn hl hst hB hn2
 go_enter Tryd.func45,Tryd.ntmps45
 go_wp2_with fail
 refine HS.out.mono ?_
 rintro e w1 ⟨i,b,rfl,hf,hb1⟩
 have BW:=Lib.hid (HB.out.trans (hb1.mono HB.out.size))
 have HF:=Lib.hid hf
 clear hb1 hf HS
 go_wp2_with fail
 go_ret2
 exact⟨i,b,rfl,HF.out,BW.out⟩
end
section
open Go.RowKit
inductive GetIs (hs:List HC) (k:Key):Int→Value→Prop
 | yes (i:Nat):i<hs.length→hkey (hs.getD i hc0)=k→GetIs hs k (hs.getD i hc0).v .nilIface
 | no:(∀i,i<hs.length→hkey (hs.getD i hc0)≠k)→GetIs hs k 0 (.iface 57 (.int .i64 15))
theorem FindIs.not {hs:List HC}{k:Key}{i:Nat}(hst:Stand hs)(h:FindIs hs k i false):∀j,j<hs.length→hkey (hs.getD j hc0)≠k:=fun j hj e=>by
 rcases Nat.lt_trichotomy j i with hlt | rfl | hlt
 ·have:=h.lo j hlt
  rw[e]at this
  exact kl_irrefl k this
 ·have:=h.is.2 ⟨hj,e⟩
  cases this
 ·have h1:=hst.lt hlt hj
  rw[e]at h1
  exact h.hi i (Nat.le_refl _) (by omega) h1
def GetEnd (hs:List HC)(k:Key)(w:World)(e:Ending)(w':World):Prop:=∃x er,e= .returned (.tuple #[.int .i64 x,er])∧GetIs hs k x er∧Below w.heap.size w w'
theorem get_any (hs:List HC)(ad:Option Addr)(n cap:Nat)(a:Int)(f:ByteArray)(w:World)(hn:hs.length=n)(hnm:n≤1000000)(hl:HLies w.heap.size w ad hs)(hst:Stand hs):
 Calls Tryd.prog 31 #[.slice ad n cap,.int .i64 a,.string f] w (GetEnd hs (a,f.toList) w):=by
 have HF:=Lib.hid (find_any hs ad n cap a f w hn hnm hl hst)
 have HL:=Lib.hid hl
 have HN:=Lib.hid hn
 have HST:=Lib.hid hst
 clear hl hn hst
 go_enter Tryd.func31,Tryd.ntmps31
 go_wp2_with fail
 refine HF.out.mono ?_
 rintro e w1 ⟨i,b,rfl,hf,hb1⟩
 have BW:=Lib.hid hb1
 cases b with
 | false=>
   have HE:Hid (GetEnd hs (a,f.toList) w (.returned (.tuple #[.int .i64 0,.iface 57 (.int .i64 15)])) w1):=⟨_,_,rfl,.no (hf.not HST.out),hb1⟩
   clear hf hb1 HF
   go_wp2_with fail
   go_ret2
   exact HE.out
 | true=>
   obtain⟨hi,hk⟩:=hf.is.1 rfl
   obtain⟨b3,off3,rfl,hb3,c1,c2,c3⟩:=HL.out i hi
   have c3:=(hb1.cell (p:=⟨b3,_,none⟩) hb3).trans c3
   have hin:i<n:=by rw[←HN.out];exact hi
   have HE:Hid (GetEnd hs (a,f.toList) w (.returned (.tuple #[.int .i64 (hs.getD i hc0).v,.nilIface])) w1):=⟨_,_,rfl,.yes i hi hk,hb1⟩
   generalize (hs.getD i hc0).v=x at c3 HE
   clear hf hb1 HF c1 c2 hk hi
   go_wp2_with fail
   go_ret2
   exact HE.out
theorem ownsRow_lower {B B':Nat}{e:TypeId}{k:Nat}{v:Value}{n:Nat}{xs:List Value}{w:World}(h:w.ownsRow B e k v n xs)(hb:B'≤B):w.ownsRow B' e k v n xs:=by
 obtain⟨h1,h2⟩:=h
 exact⟨h1,h2.imp id fun⟨g,cap',cur,e1,e2,e3⟩=>⟨g,cap',cur,e1,Nat.le_trans hb e2,e3⟩⟩
end
section
open Go.RowKit
theorem jcmp_any (c d:HC)(w:World):
 Calls Tryd.prog 22 #[.agg #[.int .i64 c.a,.string c.f,.int .i64 c.v],.agg #[.int .i64 d.a,.string d.f,.int .i64 d.v]] w fun e w'=>e= .returned (.int .i64 (ordK (hkey c) (hkey d)))∧Below w.heap.size w w':=by
 obtain⟨x,y,z⟩:=c
 obtain⟨x2,y2,z2⟩:=d
 have HO:=Lib.hid (fun W=>order_any x y x2 y2 W)
 have HB:Hid (Below w.heap.size w ((w.alloc (.cells #[.int .i64 x,.string y,.int .i64 z] 43)).alloc (.cells #[.int .i64 x2,.string y2,.int .i64 z2] 43))):=((Below.refl _ w).alloc (Nat.le_refl _) _).alloc (by simp) _
 go_enter Tryd.func22,Tryd.ntmps22
 go_wp2_with fail
 refine(HO.out _).mono ?_
 rintro e w1 ⟨rfl,rfl⟩
 go_wp2_with fail
 go_ret
 exact⟨rfl,HB.out⟩
end
section
open Go.RowKit
theorem below_drewN2 {B:Nat}{a w:World}(h:Below B a w):∀n,Below B a (w.drewN n):=fun n=>⟨h.os,h.tape,h.output,h.size,h.block⟩
end
section
open Go.RowKit
theorem take_snocH (hs:List HC)(k:Nat)(h:k<hs.length):hs.take (k+1)=hs.take k ++ [hs.getD k hc0]:=by
 rw[List.take_succ_eq_append_getElem h,List.getD_eq_getElem?_getD,List.getElem?_eq_getElem h];rfl
def HRow (B:Nat)(xs:List HC)(v:Value)(w:World):Prop:=w.ownsRow B 45 3 v xs.length (hcells xs)
theorem HRow.nil (B:Nat)(w:World):HRow B [] (.slice none 0 0) w:=World.ownsRow_nil _ _ _ _
theorem HRow.below {B:Nat}{xs:List HC}{v:Value}{w w':World}(h:HRow B xs v w)(hb:Below w.heap.size w w'):HRow B xs v w':=
 World.ownsRow.kept (row:=none) h ⟨hb.os,hb.tape,hb.output,hb.size,fun q hq _=>hb.block q hq⟩ (by cases v.ownBlock<;>simp)
theorem run_append_cell {w:World}(ty:TypeId)(B:Nat)(xs:List HC)(v:Value)(c:HC)(hown:HRow B xs v w)(hB:B≤w.heap.size)(hsz:xs.length≤1000000):
 ∃v' w',(Builtin.append_ #[32,32] ty #[v,.slice (some ⟨w.heap.size,0,none⟩) 1 1]).run Tryd.prog (w.alloc (.cells #[.int .i64 c.a,.string c.f,.int .i64 c.v] 45))= .ok v' w'∧HRow B (xs ++ [c]) v' w'∧Below B w w':=by
 obtain⟨i0,hi,hz0,hz1,hz2⟩:=info_parts Tryd.infoCell
 have hA:Below w.heap.size w (w.alloc (.cells #[.int .i64 c.a,.string c.f,.int .i64 c.v] 45)):=(Below.refl _ w).alloc (Nat.le_refl _) _
 have hown2:(w.alloc (.cells #[.int .i64 c.a,.string c.f,.int .i64 c.v] 45)).ownsRow B 45 3 v xs.length (hcells xs):=hown.below hA
 have hl:HLies (w.alloc (.cells #[.int .i64 c.a,.string c.f,.int .i64 c.v] 45)).heap.size (w.alloc (.cells #[.int .i64 c.a,.string c.f,.int .i64 c.v] 45)) (some ⟨w.heap.size,0,none⟩) [c]:=(hlies_new w [c] 45).mono (by simp)
 obtain⟨v',w',hr,h1,_,h3⟩:=run_append_h (P:=Tryd.prog) B 32 ty 45 i0 _ Tryd.underlying32 hi hz0 hz1 hz2 rfl v xs.length xs rfl hown2 (Nat.le_trans hB hA.size) (some ⟨w.heap.size,0,none⟩) 1 1 [c] rfl hl (by omega)
 refine⟨v',w',hr, ?_,(hA.mono hB).trans h3⟩
 unfold HRow
 rw[List.length_append]
 exact h1
end
section
open Go.RowKit
def addLast (l:List HC)(s:HC):List HC:=if 0<l.length∧hkey (l.getD (l.length - 1) hc0)=hkey s then l.take (l.length - 1) ++ [⟨(l.getD (l.length - 1) hc0).a,(l.getD (l.length - 1) hc0).f,(l.getD (l.length - 1) hc0).v+s.v⟩] else l ++ [s]
def joinTo (ys:List HC):Nat→List HC
 | 0=>[]
 | k+1=>addLast (joinTo ys k) (ys.getD k hc0)
theorem addLast_len (l:List HC)(s:HC):(addLast l s).length≤l.length+1:=by
 unfold addLast
 split
 ·rw[List.length_append,List.length_take,List.length_cons,List.length_nil];omega
 ·simp
theorem joinTo_len (ys:List HC):∀k,(joinTo ys k).length≤k
 | 0=>Nat.le_refl _
 | k+1=>Nat.le_trans (addLast_len _ _) (Nat.succ_le_succ (joinTo_len ys k))
def BoundV (l:List HC)(b:Int):Prop:=∀c,c∈l→ -b≤c.v∧c.v≤b
theorem getD_memH {l:List HC}{i:Nat}(h:i<l.length):l.getD i hc0∈l:=by
 rw[List.getD_eq_getElem?_getD,List.getElem?_eq_getElem h];exact List.getElem_mem h
theorem addLast_bound {l:List HC}{s:HC}{b c:Int}(h:BoundV l b)(hs: -c≤s.v∧s.v≤c)(hb:0≤b)(hc:0≤c):BoundV (addLast l s) (b+c):=by
 unfold addLast
 split
 ·rename_i hh
  intro x hx
  rcases List.mem_append.1 hx with h1 | h1
  ·have:=h x (List.mem_of_mem_take h1);omega
  ·obtain rfl:=List.mem_singleton.1 h1
   have:=h _ (getD_memH (l:=l) (i:=l.length - 1) (by omega))
   simp only
   omega
 ·intro x hx
  rcases List.mem_append.1 hx with h1 | h1
  ·have:=h x h1;omega
  ·obtain rfl:=List.mem_singleton.1 h1;omega
theorem joinTo_bound {ys:List HC}{c:Int}(h:BoundV ys c)(hc:0≤c):∀k,k≤ys.length→BoundV (joinTo ys k) (k*c)
 | 0,_=>fun x hx=>by cases hx
 | k+1,hk=>by
   have h1:=joinTo_bound h hc k (by omega)
   have h2:=addLast_bound h1 (h _ (getD_memH (l:=ys) (i:=k) (by omega))) (Int.mul_nonneg (by omega) hc) hc
   have e:((k+1:Nat):Int)*c=(k:Int)*c+c:=by rw[Int.natCast_add,Int.add_mul];simp
   rw[e]
   exact h2
def SRow (B:Nat)(xs:List HC)(v:Value)(w:World):Prop:=w.ownsRow B 43 3 v xs.length (hcells xs)
theorem SRow.nil (B:Nat)(w:World):SRow B [] (.slice none 0 0) w:=World.ownsRow_nil _ _ _ _
theorem SRow.below {B:Nat}{xs:List HC}{v:Value}{w w':World}(h:SRow B xs v w)(hb:Below w.heap.size w w'):SRow B xs v w':=
 World.ownsRow.kept (row:=none) h ⟨hb.os,hb.tape,hb.output,hb.size,fun q hq _=>hb.block q hq⟩ (by cases v.ownBlock<;>simp)
theorem SRow.form {B:Nat}{xs:List HC}{v:Value}{w:World}(h:SRow B xs v w)(hpos:0<xs.length):∃g cap,v= .slice (some ⟨g,0,none⟩) xs.length cap∧xs.length≤cap∧B≤g∧g<w.heap.size∧HLies w.heap.size w (some ⟨g,0,none⟩) xs:=by
 obtain⟨g,cap,rfl,h1,h2⟩:=World.ownsRow.form h hpos
 obtain⟨a,cap',e,h3,_,h5,_⟩:=own_hlies rfl h
 injection e with e1 e2 e3
 subst e1 e3
 exact⟨g,cap,rfl,h3,h1,h2,h5⟩
theorem run_append_share {w:World}(ty:TypeId)(B:Nat)(xs:List HC)(v:Value)(c:HC)(hown:SRow B xs v w)(hB:B≤w.heap.size)(hsz:xs.length≤1000000):
 ∃v' w',(Builtin.append_ #[35,35] ty #[v,.slice (some ⟨w.heap.size,0,none⟩) 1 1]).run Tryd.prog (w.alloc (.cells #[.int .i64 c.a,.string c.f,.int .i64 c.v] 43))= .ok v' w'∧SRow B (xs ++ [c]) v' w'∧Below B w w':=by
 obtain⟨i0,hi,hz0,hz1,hz2⟩:=info_parts Tryd.infoShare
 have hA:Below w.heap.size w (w.alloc (.cells #[.int .i64 c.a,.string c.f,.int .i64 c.v] 43)):=(Below.refl _ w).alloc (Nat.le_refl _) _
 have hown2:(w.alloc (.cells #[.int .i64 c.a,.string c.f,.int .i64 c.v] 43)).ownsRow B 43 3 v xs.length (hcells xs):=hown.below hA
 have hl:HLies (w.alloc (.cells #[.int .i64 c.a,.string c.f,.int .i64 c.v] 43)).heap.size (w.alloc (.cells #[.int .i64 c.a,.string c.f,.int .i64 c.v] 43)) (some ⟨w.heap.size,0,none⟩) [c]:=(hlies_new w [c] 43).mono (by simp)
 obtain⟨v',w',hr,h1,_,h3⟩:=run_append_h (P:=Tryd.prog) B 35 ty 43 i0 _ Tryd.underlying35 hi hz0 hz1 hz2 rfl v xs.length xs rfl hown2 (Nat.le_trans hB hA.size) (some ⟨w.heap.size,0,none⟩) 1 1 [c] rfl hl (by omega)
 refine⟨v',w',hr, ?_,(hA.mono hB).trans h3⟩
 unfold SRow
 rw[List.length_append]
 exact h1
theorem hcells_set:∀(xs:List HC) (i:Nat) (u:Int),i<xs.length→(hcells xs).set (i*3+2) (.int .i64 u)=hcells (xs.set i ⟨(xs.getD i hc0).a,(xs.getD i hc0).f,u⟩)
 | [],i,_,h=>absurd h (Nat.not_lt_zero i)
 | x :: xs,0,u,_=>rfl
 | x :: xs,i+1,u,h=>by
   have:=hcells_set xs i u (by simpa using h)
   rw[show(i+1)*3+2=(i*3+2)+3 by omega]
   simp only[List.set_cons_succ,List.getD_cons_succ]
   show[Value.int .i64 x.a,.string x.f,.int .i64 x.v] ++ (hcells xs).set (i*3+2) (.int .i64 u)=[Value.int .i64 x.a,.string x.f,.int .i64 x.v] ++ hcells (xs.set i ⟨(xs.getD i hc0).a,(xs.getD i hc0).f,u⟩)
   rw[this]
theorem set_last (xs:List HC)(c:HC)(h:0<xs.length):xs.set (xs.length - 1) c=xs.take (xs.length - 1) ++ [c]:=by
 rw[List.set_eq_take_append_cons_drop,if_pos (by omega),List.drop_eq_nil_of_le (by omega)]
theorem SRow.stored {B g cap m:Nat}{xs:List HC}{w:World}(h:SRow B xs (.slice (some ⟨g,0,none⟩) (m+1) cap) w)(hm:xs.length=m+1)(u:Int):SRow B (xs.take m ++ [⟨(xs.getD m hc0).a,(xs.getD m hc0).f,u⟩]) (.slice (some ⟨g,0,none⟩) (m+1) cap) (w.setCell ⟨g,m*3+2,none⟩ (.int .i64 u)):=by
 have h':w.ownsRow B 43 3 (.slice (some ⟨g,0,none⟩) (m+1) cap) (m+1) (hcells xs):=by rw[←hm]at h⊢;exact h
 have:=(World.ownsRow.stored h' (m*3+2) (.int .i64 u)).1
 rw[hcells_set xs m u (by omega)]at this
 have e:=set_last xs ⟨(xs.getD m hc0).a,(xs.getD m hc0).f,u⟩ (by omega)
 rw[hm,Nat.add_sub_cancel]at e
 rw[e]at this
 unfold SRow
 rw[List.length_append,List.length_take,hm,show min m (m+1)=m by omega]
 exact this
structure SortIs (xs zs:List HC):Prop where
 perm:xs.Perm zs
 sorted:∀i j,i<j→j<zs.length→¬kl (hkey (zs.getD j hc0)) (hkey (zs.getD i hc0))=true
def SortEnd (xs:List HC)(B:Nat)(v:Value)(W:World)(e:Ending)(w':World):Prop:=e= .returned (.tuple #[])∧∃zs,SortIs xs zs∧SRow B zs v w'∧Below B W w'
def SortSaid (xs:List HC):Prop:=∀(W:World) (B:Nat) (v:Value),SRow B xs v W→B≤W.heap.size→Calls Tryd.prog 21 #[v,.func (.func 22) #[] #[]] W (SortEnd xs B v W)
end
section
open Go.RowKit
def le (x y:HC):Prop:=¬kl (hkey y) (hkey x)=true
theorem le_refl (x:HC):le x x:=kl_irrefl _
theorem le_trans {x y z:HC}(h1:le x y)(h2:le y z):le x z:=fun h=>by
 by_cases e:hkey y=hkey x
 ·unfold le at h2;rw[e]at h2;exact h2 h
 ·rcases kl_total e with h3 | h3
  ·exact h1 h3
  ·exact h2 (kl_trans h h3)
theorem le_of_lt {x y:HC}(h:kl (hkey x) (hkey y)=true):le x y:=kl_asymm h
abbrev at' (xs:List HC)(i:Nat):HC:=xs.getD i hc0
theorem at_set {xs:List HC}{i j:Nat}{c:HC}(hi:i<xs.length):at' (xs.set i c) j=if j=i then c else at' xs j:=by
 unfold at'
 rw[List.getD_eq_getElem?_getD,List.getElem?_set,List.getD_eq_getElem?_getD]
 by_cases h:i=j
 ·subst h;rw[if_pos rfl,if_pos hi,if_pos rfl];rfl
 ·rw[if_neg h,if_neg (fun e=>h e.symm)]
def swp (xs:List HC)(i j:Nat):List HC:=(xs.set i (at' xs j)).set j (at' xs i)
theorem swp_at {xs:List HC}{i j k:Nat}(hi:i<xs.length)(hj:j<xs.length):at' (swp xs i j) k=if k=j then at' xs i else if k=i then at' xs j else at' xs k:=by
 unfold swp
 rw[at_set (by simpa using hj)]
 by_cases h:k=j
 ·rw[if_pos h,if_pos h]
 ·rw[if_neg h,if_neg h,at_set hi]
theorem swp_perm {xs:List HC}{i j:Nat}(hi:i<xs.length)(hj:j<xs.length):xs.Perm (swp xs i j):=by
 have e1:at' xs i=xs[i]:=by simp[at',List.getD_eq_getElem?_getD,hi]
 have e2:at' xs j=xs[j]:=by simp[at',List.getD_eq_getElem?_getD,hj]
 unfold swp
 rw[e1,e2]
 exact(List.set_set_perm hi hj).symm
theorem hcells_set3:∀(xs:List HC) (i:Nat) (c:HC),i<xs.length→(((hcells xs).set (i*3) (.int .i64 c.a)).set (i*3+1) (.string c.f)).set (i*3+2) (.int .i64 c.v)=hcells (xs.set i c)
 | [],i,_,h=>absurd h (Nat.not_lt_zero i)
 | x :: xs,0,c,_=>rfl
 | x :: xs,i+1,c,h=>by
   have:=hcells_set3 xs i c (by simpa using h)
   rw[show(i+1)*3=i*3+3 by omega,show i*3+3+1=i*3+1+3 by omega,show i*3+3+2=i*3+2+3 by omega]
   simp only[List.set_cons_succ]
   show[Value.int .i64 x.a,.string x.f,.int .i64 x.v] ++ (((hcells xs).set (i*3) (.int .i64 c.a)).set (i*3+1) (.string c.f)).set (i*3+2) (.int .i64 c.v)=[Value.int .i64 x.a,.string x.f,.int .i64 x.v] ++ hcells (xs.set i c)
   rw[this]
structure RowAt (B g n cap:Nat)(xs:List HC)(w:World):Prop where
 len:xs.length=n
 row:w.ownsRow B 43 3 (.slice (some ⟨g,0,none⟩) n cap) n (hcells xs)
 cap:n≤cap∧cap≤9223372036854775807
 low:B≤g∧g<w.heap.size
theorem RowAt.below {B g n cap:Nat}{xs:List HC}{w w':World}(h:RowAt B g n cap xs w)(hb:Below w.heap.size w w'):RowAt B g n cap xs w':=
 ⟨h.len,World.ownsRow.kept (row:=none) h.row ⟨hb.os,hb.tape,hb.output,hb.size,fun q hq _=>hb.block q hq⟩ (by simp[Value.ownBlock]),h.cap,h.low.1,Nat.lt_of_lt_of_le h.low.2 hb.size⟩
theorem RowAt.cells {B g n cap:Nat}{xs:List HC}{w:World}(h:RowAt B g n cap xs w){i:Nat}(hi:i<n):w.cell? ⟨g,i*3,none⟩=some (.int .i64 (at' xs i).a)∧w.cell? ⟨g,i*3+1,none⟩=some (.string (at' xs i).f)∧w.cell? ⟨g,i*3+2,none⟩=some (.int .i64 (at' xs i).v):=by
 obtain⟨g1,g2,g3⟩:=hcells_get xs i (by rw[h.len];exact hi)
 exact⟨(World.ownsRow.cellAt h.row _ (by omega)).trans g1,(World.ownsRow.cellAt h.row _ (by omega)).trans g2,(World.ownsRow.cellAt h.row _ (by omega)).trans g3⟩
theorem RowAt.frozen {B g n cap:Nat}{xs:List HC}{w:World}(h:RowAt B g n cap xs w)(j:Nat):w.frozen? ⟨g,j,none⟩=false:=World.ownsRow.frozenAt h.row j
def put3 (w:World)(g i:Nat)(c:HC):World:=((w.setCell ⟨g,i*3,none⟩ (.int .i64 c.a)).setCell ⟨g,i*3+1,none⟩ (.string c.f)).setCell ⟨g,i*3+2,none⟩ (.int .i64 c.v)
theorem RowAt.put {B g n cap:Nat}{xs:List HC}{w:World}(h:RowAt B g n cap xs w){i:Nat}(hi:i<n)(c:HC):RowAt B g n cap (xs.set i c) (put3 w g i c)∧Below B w (put3 w g i c):=by
 refine⟨⟨by simpa using h.len, ?_,h.cap,h.low.1,by simpa [put3]using h.low.2⟩,((((Below.refl B w).setCell (p:=⟨g,_,none⟩) h.low.1 _).setCell (p:=⟨g,_,none⟩) h.low.1 _).setCell (p:=⟨g,_,none⟩) h.low.1 _)⟩
 rw[←hcells_set3 xs i c (by rw[h.len];exact hi)]
 exact(World.ownsRow.stored (World.ownsRow.stored (World.ownsRow.stored h.row _ _).1 _ _).1 _ _).1
theorem RowAt.swap {B g n cap:Nat}{xs:List HC}{w:World}(h:RowAt B g n cap xs w){i j:Nat}(hi:i<n)(hj:j<n):RowAt B g n cap (swp xs i j) (put3 (put3 w g i (at' xs j)) g j (at' xs i))∧Below B w (put3 (put3 w g i (at' xs j)) g j (at' xs i)):=by
 obtain⟨h1,b1⟩:=h.put hi (at' xs j)
 obtain⟨h2,b2⟩:=h1.put hj (at' xs i)
 exact⟨h2,b1.trans b2⟩
def SortedSeg (xs:List HC)(a b:Nat):Prop:=∀p q,a≤p→p<q→q<b→le (at' xs p) (at' xs q)
structure Seg (xs0 xs:List HC)(a b:Nat):Prop where
 perm:xs0.Perm xs
 out:∀k,k<a∨b≤k→at' xs k=at' xs0 k
 inn:∀k,a≤k→k<b→∃q,a≤q∧q<b∧at' xs k=at' xs0 q
theorem Seg.refl (xs:List HC)(a b:Nat):Seg xs xs a b:=⟨List.Perm.refl _,fun _ _=>rfl,fun k h1 h2=>⟨k,h1,h2,rfl⟩⟩
theorem Seg.swap {xs0 xs:List HC}{a b i j:Nat}(h:Seg xs0 xs a b)(hi:i<xs.length)(hj:j<xs.length)(hia:a≤i∧i<b)(hja:a≤j∧j<b):Seg xs0 (swp xs i j) a b:=
 ⟨h.perm.trans (swp_perm hi hj),fun k hk=>(by rw[swp_at hi hj,if_neg (by omega),if_neg (by omega)];exact h.out k hk),fun k h1 h2=>by
   rw[swp_at hi hj]
   split
   ·exact h.inn i hia.1 hia.2
   ·split
    ·exact h.inn j hja.1 hja.2
    ·exact h.inn k h1 h2⟩
theorem Seg.trans {x y z:List HC}{a b:Nat}(h:Seg x y a b)(k:Seg y z a b):Seg x z a b:=⟨h.perm.trans k.perm,fun q hq=>(k.out q hq).trans (h.out q hq),fun q h1 h2=>by
 obtain⟨r,r1,r2,r3⟩:=k.inn q h1 h2
 obtain⟨s,s1,s2,s3⟩:=h.inn r r1 r2
 exact⟨s,s1,s2,r3.trans s3⟩⟩
theorem Seg.mono {x y:List HC}{a b c d:Nat}(h:Seg x y a b)(h1:c≤a)(h2:b≤d):Seg x y c d:=⟨h.perm,fun q hq=>h.out q (by omega),fun q h3 h4=>by
 by_cases e:a≤q∧q<b
 ·obtain⟨r,r1,r2,r3⟩:=h.inn q e.1 e.2
  exact⟨r,by omega,by omega,r3⟩
 ·exact⟨q,h3,h4,h.out q (by omega)⟩⟩
structure Ins (xs:List HC)(a i j:Nat):Prop where
 oth:∀p q,a≤p→p<q→q≤i→p≠j→q≠j→le (at' xs p) (at' xs q)
 up:∀q,j<q→q≤i→le (at' xs j) (at' xs q)
theorem Ins.start {xs:List HC}{a i:Nat}(h:SortedSeg xs a i):Ins xs a i i:=⟨fun p q h1 h2 h3 h4 h5=>h p q h1 h2 (by omega),fun q h1 h2=>by omega⟩
theorem Ins.step {xs:List HC}{a i j:Nat}(h:Ins xs a i (j+1))(hi:i<xs.length)(hj:a≤j)(hji:j+1≤i)(hlt:kl (hkey (at' xs (j+1))) (hkey (at' xs j))=true):Ins (swp xs (j+1) j) a i j:=by
 have e:∀k,at' (swp xs (j+1) j) k=if k=j then at' xs (j+1) else if k=j+1 then at' xs j else at' xs k:=fun k=>swp_at (by omega) (by omega)
 refine⟨fun p q h1 h2 h3 h4 h5=> ?_,fun q h1 h2=> ?_⟩
 ·rw[e p,e q,if_neg h4,if_neg h5]
  by_cases hp:p=j+1
  ·rw[if_pos hp,if_neg (by omega)]
   exact h.oth j q hj (by omega) h3 (by omega) (by omega)
  ·rw[if_neg hp]
   by_cases hq:q=j+1
   ·rw[if_pos hq]
    exact h.oth p j h1 (by omega) (by omega) (by omega) (by omega)
   ·rw[if_neg hq]
    exact h.oth p q h1 h2 h3 hp hq
 ·rw[e j,e q,if_pos rfl,if_neg (by omega)]
  by_cases hq:q=j+1
  ·rw[if_pos hq];exact le_of_lt hlt
  ·rw[if_neg hq];exact h.up q (by omega) h2
theorem Ins.done {xs:List HC}{a i j:Nat}(h:Ins xs a i j)(hj:a≤j)(hji:j≤i)(hx:j=a∨le (at' xs (j - 1)) (at' xs j)):SortedSeg xs a (i+1):=fun p q h1 h2 h3=>by
 by_cases hp:p=j
 ·subst hp;exact h.up q h2 (by omega)
 ·by_cases hq:q=j
  ·subst hq
   rcases hx with rfl | hx
   ·omega
   ·by_cases e:p=q - 1
    ·rw[e];exact hx
    ·exact le_trans (h.oth p (q - 1) h1 (by omega) (by omega) hp (by omega)) hx
  ·exact h.oth p q h1 h2 (by omega) hp hq
end
end Go.Proofs.YtfinhpfjokpcfaaDoor
