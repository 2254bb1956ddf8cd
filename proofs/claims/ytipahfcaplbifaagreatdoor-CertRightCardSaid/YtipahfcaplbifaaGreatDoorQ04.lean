/- Parts of a proof. -/
import Derived.WalkKit
import Derived.Below
import Derived.Lib.Hide
import Derived.Deep.AppendLies
import Derived.Lib.Varint
import Derived.Lib.VarintMem
import Derived.Test.YtipahfcaplbifaaGreatDoorProg
import Derived.BigQuiet
import Derived.RegionTactic
import Derived.Deep.QuietTactic
import Derived.Deep.RegionLaw
import Derived.Deep.AppendSrc
import Derived.Lib.Zigzag
import Derived.Lib.AppendZerosOnto
import Derived.Lib.AppendStr
import Derived.Laws.IdiomStrings
import Derived.Test.YtipahfcaplbifaaGreatDoorRows
import Derived.ProofKit
import Derived.OpenShut
import Derived.ChangeOld
import Derived.Deep.Slices
import Derived.Deep.Fields
import Derived.Lib.SmallJoins
set_option linter.unusedVariables false
set_option linter.unusedSimpArgs false
set_option maxHeartbeats 60000000
set_option maxRecDepth 100000
namespace Go.Proofs.YtipahfcaplbifaaGreatDoor
namespace Pak
open Go.RowKit
section
variable {T:Type}
structure Sh (T:Type) where
 k:Nat
 rel:(Nat→Prop)→World→List Value→T→Prop
 len:∀ {S w cs x},rel S w cs x→cs.length=k
 one:∀ {S w cs x},rel S w cs x→∀u∈cs,u.oneCell'=true
 keep:∀ {S S':Nat→Prop} {w w':World} {cs:List Value} {x:T},(∀b,S b→S' b)→(∀b o,S b→w'.cell? ⟨b,o,none⟩=w.cell? ⟨b,o,none⟩)→rel S w cs x→rel S' w' cs x
def Sits (sh:Sh T)(S:Nat→Prop)(w:World)(a:Option Addr)(xs:List T):Prop:=
 xs.length≤9223372036854775807∧∀i (h:i<xs.length),∃b off cs,a=some ⟨b,off,none⟩∧S b∧(∀j u,cs[j]? =some u→w.cell? ⟨b,off+i*sh.k+j,none⟩=some u)∧sh.rel S w cs xs[i]
theorem Sits.keep {sh:Sh T}{S S':Nat→Prop}{w w':World}{a:Option Addr}{xs:List T}(hS:∀b,S b→S' b)(hk:∀b o,S b→w'.cell? ⟨b,o,none⟩=w.cell? ⟨b,o,none⟩)(h:Sits sh S w a xs):Sits sh S' w' a xs:=
 ⟨h.1,fun i hi=>by
  obtain⟨b,off,cs,e,hb,h1,h2⟩:=h.2 i hi
  exact⟨b,off,cs,e,hS b hb,fun j u hu=>(hk _ _ hb).trans (h1 j u hu),sh.keep hS hk h2⟩⟩
theorem Sits.nil (sh:Sh T)(S:Nat→Prop)(w:World)(a:Option Addr):Sits sh S w a []:=⟨Nat.zero_le _,fun i hi=>absurd hi (Nat.not_lt_zero i)⟩
abbrev Lo (B:Nat):Nat→Prop:=fun b=>b<B
theorem Sits.below {sh:Sh T}{B B':Nat}{w w':World}{a:Option Addr}{xs:List T}(h:Sits sh (Lo B) w a xs)(hb:Below B w w')(hB:B≤B'):Sits sh (Lo B') w' a xs:=
 h.keep (fun b (hb:b<B)=>Nat.lt_of_lt_of_le hb hB) (fun b o hb2=>hb.cell (p:=⟨b,o,none⟩) hb2)
theorem Sits.up {sh:Sh T}{B:Nat}{w w':World}{a:Option Addr}{xs:List T}(h:Sits sh (Lo B) w a xs)(hb:Below B w w'):Sits sh (Lo B) w' a xs:=h.below hb (Nat.le_refl _)
def Slot (sh:Sh T)(S:Nat→Prop)(w:World)(v:Value)(xs:List T):Prop:=∃a cap,v= .slice a xs.length cap∧Sits sh S w a xs
theorem Slot.keep {sh:Sh T}{S S':Nat→Prop}{w w':World}{v:Value}{xs:List T}(hS:∀b,S b→S' b)(hk:∀b o,S b→w'.cell? ⟨b,o,none⟩=w.cell? ⟨b,o,none⟩)(h:Slot sh S w v xs):Slot sh S' w' v xs:=by
 obtain⟨a,cap,e,h1⟩:=h
 exact⟨a,cap,e,h1.keep hS hk⟩
theorem Slot.one {sh:Sh T}{S:Nat→Prop}{w:World}{v:Value}{xs:List T}(h:Slot sh S w v xs):v.oneCell'=true:=by
 obtain⟨a,cap,rfl,_⟩:=h
 rfl
theorem flatten_get {k:Nat}:∀ {css:List (List Value)},(∀cs∈css,cs.length=k)→∀(i j:Nat) (hi:i<css.length),j<k→css.flatten[i*k+j]? =css[i][j]?
 | [],_,i,j,hi,_=>absurd hi (Nat.not_lt_zero i)
 | c :: css,h,0,j,_,hj=>by
  rw[List.flatten_cons,Nat.zero_mul,Nat.zero_add,List.getElem?_append_left (by rw[h c List.mem_cons_self];exact hj)]
  rfl
 | c :: css,h,i+1,j,hi,hj=>by
  have:=flatten_get (css:=css) (fun cs hc=>h cs (List.mem_cons_of_mem _ hc)) i j (by simpa using hi) hj
  rw[List.flatten_cons,List.getElem?_append_right (by rw[h c List.mem_cons_self,Nat.succ_mul];omega),h c List.mem_cons_self,show(i+1)*k+j - k=i*k+j by rw[Nat.succ_mul];omega,this]
  rfl
end
def intSh:Sh Int where
 k:=1
 rel:=fun _ _ cs x=>cs=[.int .i64 x]∧(-9223372036854775808≤x∧x≤9223372036854775807)
 len:=fun h=>by rw[h.1];rfl
 one:=fun h u hu=>by rw[h.1]at hu;simp at hu;rw[hu];rfl
 keep:=fun _ _ h=>h
def i64 (x:Int):Prop:= -9223372036854775808≤x∧x≤9223372036854775807
def clauseSh:Sh (List Int) where
 k:=1
 rel:=fun S w cs x=>∃v,cs=[v]∧Slot intSh S w v x
 len:=fun⟨v,h,_⟩=>by rw[h];rfl
 one:=fun⟨v,h,h2⟩ u hu=>by rw[h]at hu;simp at hu;rw[hu];exact h2.one
 keep:=fun hS hk ⟨v,h,h2⟩=>⟨v,h,h2.keep hS hk⟩
structure KeptW (g:Nat)(r:Option Nat)(w w':World):Prop where
 os:w'.os=w.os
 tape:w'.tape=w.tape
 output:w'.output=w.output
 size:w.heap.size≤w'.heap.size
 block:∀q,q<w.heap.size→q≠g→some q≠r→w'.heap[q]? =w.heap[q]?
theorem KeptW.of_below {g:Nat}{r:Option Nat}{w w':World}(hb:Below w.heap.size w w'):KeptW g r w w':=⟨hb.os,hb.tape,hb.output,hb.size,fun q hq _ _=>hb.block q hq⟩
theorem Tryz.infoByte:(Tryz.prog.info? 5).map (fun i=>(i.zero,i.size,i.bytes))=some (some (.int .u8 0),1,1):=by kernel_rfl
theorem info_parts {p:Option TypeInfo}{a:Option Value}{b c:Nat}(h:p.map (fun i=>(i.zero,i.size,i.bytes))=some (a,b,c)):∃i,p=some i∧i.zero=a∧i.size=b∧i.bytes=c:=by
 cases p with
 | none=>cases h
 | some i=>simp at h;exact⟨i,rfl,h.1,h.2.1,h.2.2⟩
theorem own_slice {w:World}{B k n:Nat}{e:TypeId}{v:Value}{xs:List Value}(h:w.ownsRow B e k v n xs):∃a cap,v= .slice a n cap:=by
 rcases h.2 with ⟨e,e0⟩ | ⟨q,cap,_,e,_⟩
 ·exact⟨none,0,by rw[e,e0]⟩
 ·exact⟨_,cap,e⟩
def byteSh:Sh UInt8 where
 k:=1
 rel:=fun _ _ cs x=>cs=[.int .u8 (x.toNat:Int)]
 len:=fun h=>by rw[h];rfl
 one:=fun h u hu=>by rw[h]at hu;simp at hu;rw[hu];rfl
 keep:=fun _ _ h=>h
def BRow (B:Nat)(l:List UInt8)(v:Value)(w:World):Prop:=w.ownsRow B 5 1 v l.length (Lib.byteCells l)
theorem BRow.nil (B:Nat)(w:World):BRow B [] (.slice none 0 0) w:=World.ownsRow_nil _ _ _ _
theorem BRow.below {B:Nat}{l:List UInt8}{v:Value}{w w':World}(h:BRow B l v w)(hb:Below w.heap.size w w'):BRow B l v w':=
 World.ownsRow.kept (row:=none) h ⟨hb.os,hb.tape,hb.output,hb.size,fun q hq _=>hb.block q hq⟩ (by cases v.ownBlock<;>simp)
theorem BRow.slice {B:Nat}{l:List UInt8}{v:Value}{w:World}(h:BRow B l v w):∃a cap,v= .slice a l.length cap:=own_slice h
theorem BRow.slot {B:Nat}{l:List UInt8}{v:Value}{w:World}(h:BRow B l v w)(hm:l.length≤9223372036854775807):Slot byteSh (fun b=>B≤b∧b<w.heap.size) w v l:=by
 have hc:=fun g=>World.ownsRow.cells h (g:=g)
 have hlt:=World.ownsRow.lt h
 obtain⟨_,⟨rfl,h0⟩ | ⟨g,cap,cur,rfl,_⟩⟩:=h
 ·exact⟨none,0,by rw[h0],hm,fun i hi=>by omega⟩
 ·refine⟨some ⟨g,0,none⟩,cap,rfl,hm,fun i hi=>⟨g,0,_,rfl,hlt g rfl,fun j u hu=> ?_,rfl⟩⟩
  have hj:j=0:=by have:=(List.getElem?_eq_some_iff.1 hu).1;simp at this;exact this
  subst hj
  have:=hc g rfl i (.int .u8 (l[i].toNat:Int)) (by simp[Lib.byteCells,hi])
  rw[show(⟨g,0,none⟩:Addr).add i=⟨g,0+i,none⟩ by unfold Addr.add;split<;>simp_all]at this
  simp at hu
  subst hu
  simpa [byteSh]using this
theorem run_cat {w:World}{B:Nat}{l m:List UInt8}{v u:Value}{S:Nat→Prop}(hv:BRow B l v w)(hu:Slot byteSh S w u m)(hB:B≤w.heap.size)(hsz:l.length+m.length≤140000000000000):
  ∃v' w',(∀ty,(Builtin.append_ #[182,182] ty #[v,u]).run Tryz.prog w= .ok v' w')∧BRow B (l ++ m) v' w'∧Below B w w':=by
 obtain⟨i0,hi,hz0,hz1,hz2⟩:=info_parts Tryz.infoByte
 obtain⟨a,cap,rfl,hm,hs⟩:=hu
 have hvb:=fun k (hk:v.ownBlock=some k)=>(World.ownsRow.lt hv k hk).1
 by_cases h0:m.length=0
 ·have hy:m=[]:=List.length_eq_zero_iff.1 h0
  subst hy
  refine⟨v,w,fun ty=> ?_,by simpa using hv,Below.refl _ _⟩
  have hf:∀ad:Addr,(Builtin.firstCells 1 0 (.slice (some ad) 0 cap)).run Tryz.prog w= .ok #[] w:=fun ad=>run_firstCells_some w 1 0 ad 0 cap [] (by simp) (fun j u h=>by cases h)
  have hf0:=run_firstCells_none (P:=Tryz.prog) w 1 0 0 cap
  have ht:=Tryz.underlying182
  rcases hv.2 with ⟨rfl,hl0⟩ | ⟨g,cap',cur,rfl,_,_,hnc,_⟩
  ·cases a<;>simp[Builtin.append_,run_underlying ht,sizeOf,typeInfo,hi,hz1,Builtin.lenOf,hf,hf0]
  ·cases a<;>simp[Builtin.append_,run_underlying ht,sizeOf,typeInfo,hi,hz1,Builtin.lenOf,hf,hf0,hnc,storeCells]
 ·obtain⟨b,off,cs,rfl,_⟩:=hs 0 (by omega)
  have hnews:∀j u,(Lib.byteCells m)[j]? =some u→w.cell? ((⟨b,off,none⟩:Addr).add j)=some u:=fun j u hj=>by
   have hjl:j<m.length:=by have:=(List.getElem?_eq_some_iff.1 hj).1;simpa [Lib.byteCells]using this
   obtain⟨b',off',cs,e,_,hc,rfl⟩:=hs j hjl
   injection e with e
   injection e with e1 e2 e3
   subst e1 e2
   have:=hc 0 _ rfl
   rw[show(⟨b,off,none⟩:Addr).add j=⟨b,off+j,none⟩ by unfold Addr.add;split<;>simp_all]
   simp[Lib.byteCells,hjl]at hj
   subst hj
   simpa [byteSh]using this
  have hrun:=fun ty=>run_append_own_at (P:=Tryz.prog) w B 182 ty 5 i0 _ 1 1 Tryz.underlying182 hi hz0 hz1 hz2 rfl (by decide) v l.length (Lib.byteCells l) hv ⟨b,off,none⟩ m.length cap (Lib.byteCells m) (by simp[Lib.byteCells]) hnews (fun u hu=>by
   obtain⟨x,_,rfl⟩:=List.mem_map.1 hu;rfl) (by unfold maxLen;omega) (by omega) hB
  obtain⟨v',w',hr,h2,h3,_⟩:=hrun 182
  refine⟨v',w',fun ty=>hr, ?_,(Below.refl B w).grown h3 hB hvb⟩
  unfold BRow
  rw[List.length_append,Lib.byteCells_append]
  exact h2
theorem byte_new (w:World)(c:UInt8)(v:Int)(hv:v=(c.toNat:Int)):Slot byteSh (fun _=>True) (w.alloc (.cells #[.int .u8 v] 5)) (.slice (some ⟨w.heap.size,0,none⟩) 1 1) [c]:=by
 subst hv
 refine⟨_,_,rfl,by simp,fun i hi=> ?_⟩
 have hi0:i=0:=by simp at hi;exact hi
 subst hi0
 refine⟨_,_,[.int .u8 (c.toNat:Int)],rfl,trivial,fun j u hu=> ?_,rfl⟩
 have hj:j=0:=by have:=(List.getElem?_eq_some_iff.1 hu).1;simp at this;exact this
 subst hj
 rw[cell_of_row _ _ _ _ _ _ (heap_alloc_new w _)]
 simpa using hu
theorem run_cat2 {w:World}{B:Nat}{l m:List UInt8}{v u:Value}{S:Nat→Prop}(hv:BRow B l v w)(hu:Slot byteSh S w u m)(hB:B≤w.heap.size)(hsz:l.length+m.length≤140000000000000):
  ∃v' w',(∀ty,(Builtin.append_ #[182,182] ty #[v,u]).run Tryz.prog w= .ok v' w')∧BRow B (l ++ m) v' w'∧Below B w w'∧w.grownBy w' v.ownBlock∧(v'.ownBlock=v.ownBlock∨v'.ownBlock=some w.heap.size):=by
 obtain⟨v',w',h1,h2,h3⟩:=run_cat hv hu hB hsz
 refine⟨v',w',h1,h2,h3, ?_⟩
 obtain⟨i0,hi,hz0,hz1,hz2⟩:=info_parts Tryz.infoByte
 obtain⟨a,cap,rfl,hm,hs⟩:=hu
 by_cases h0:m.length=0
 ·have hy:m=[]:=List.length_eq_zero_iff.1 h0
  subst hy
  have key:∀ty,(Builtin.append_ #[182,182] ty #[v,.slice a 0 cap]).run Tryz.prog w= .ok v w:=fun ty=>by
   have hf:∀ad:Addr,(Builtin.firstCells 1 0 (.slice (some ad) 0 cap)).run Tryz.prog w= .ok #[] w:=fun ad=>run_firstCells_some w 1 0 ad 0 cap [] (by simp) (fun j u h=>by cases h)
   have hf0:=run_firstCells_none (P:=Tryz.prog) w 1 0 0 cap
   have ht:=Tryz.underlying182
   rcases hv.2 with ⟨rfl,hl0⟩ | ⟨g,cap',cur,rfl,_,_,hnc,_⟩
   ·cases a<;>simp[Builtin.append_,run_underlying ht,sizeOf,typeInfo,hi,hz1,Builtin.lenOf,hf,hf0]
   ·cases a<;>simp[Builtin.append_,run_underlying ht,sizeOf,typeInfo,hi,hz1,Builtin.lenOf,hf,hf0,hnc,storeCells]
  have:=(h1 182).symm.trans (key 182)
  injection this with e1 e2
  subst e1 e2
  exact⟨⟨rfl,rfl,rfl,Nat.le_refl _,fun _ _ _=>rfl⟩,.inl rfl⟩
 ·obtain⟨b,off,cs,rfl,_⟩:=hs 0 (by omega)
  have hnews:∀j u,(Lib.byteCells m)[j]? =some u→w.cell? ((⟨b,off,none⟩:Addr).add j)=some u:=fun j u hj=>by
   have hjl:j<m.length:=by have:=(List.getElem?_eq_some_iff.1 hj).1;simpa [Lib.byteCells]using this
   obtain⟨b',off',cs,e,_,hc,rfl⟩:=hs j hjl
   injection e with e
   injection e with e1 e2 e3
   subst e1 e2
   have:=hc 0 _ rfl
   rw[show(⟨b,off,none⟩:Addr).add j=⟨b,off+j,none⟩ by unfold Addr.add;split<;>simp_all]
   simp[Lib.byteCells,hjl]at hj
   subst hj
   simpa [byteSh]using this
  have hrun:=fun ty=>run_append_own_at (P:=Tryz.prog) w B 182 ty 5 i0 _ 1 1 Tryz.underlying182 hi hz0 hz1 hz2 rfl (by decide) v l.length (Lib.byteCells l) hv ⟨b,off,none⟩ m.length cap (Lib.byteCells m) (by simp[Lib.byteCells]) hnews (fun u hu=>by
   obtain⟨x,_,rfl⟩:=List.mem_map.1 hu;rfl) (by unfold maxLen;omega) (by omega) hB
  obtain⟨v2,w2,hr,k2,k3,_,k5⟩:=hrun 182
  have:=(h1 182).symm.trans hr
  injection this with e1 e2
  subst e1 e2
  exact⟨k3,k5⟩
theorem conv_bytes {w:World}{S:Nat→Prop}{a:Option Addr}{l:List UInt8}(cap:Nat)(hs:Sits byteSh S w a l):(convert 182 9 (.slice a l.length cap)).run Tryz.prog w= .ok (.string ⟨l.toArray⟩) w:=by
 cases a with
 | none=>
  have h0:l=[]:=by
   cases l with
   | nil=>rfl
   | cons x l=>obtain⟨_,_,_,e,_⟩:=hs.2 0 (by simp);cases e
  subst h0
  show(convert 182 9 (.slice none 0 cap)).run Tryz.prog w=_
  rw[run_convert_bytes_string w _ _ 5 none 0 cap Tryz.underlying182 Tryz.underlying5 Tryz.underlying9]
  rfl
 | some a=>
  refine run_convert_bytes_back w _ _ 5 a cap l Tryz.underlying182 Tryz.underlying5 Tryz.underlying9 (fun j hj=> ?_)
  obtain⟨b,off,cs,e,_,hc,rfl⟩:=hs.2 j hj
  injection e with e
  subst e
  have:=hc 0 _ rfl
  rw[show(⟨b,off,none⟩:Addr).add j=⟨b,off+j,none⟩ by unfold Addr.add;split<;>simp_all]
  simpa [byteSh]using this
theorem BRow.conv {B:Nat}{l:List UInt8}{v:Value}{w:World}(h:BRow B l v w)(hm:l.length≤9223372036854775807):(convert 182 9 v).run Tryz.prog w= .ok (.string ⟨l.toArray⟩) w:=by
 obtain⟨a,cap,rfl,hs⟩:=h.slot hm
 exact conv_bytes cap hs
theorem Sits.past {T:Type}{sh:Sh T}{S:Nat→Prop}{w w':World}{a:Option Addr}{xs:List T}{row:Option Nat}(h:Sits sh S w a xs)(hg:w.grownBy w' row)(hS:∀b,S b→b<w.heap.size∧some b≠row):Sits sh S w' a xs:=
 h.keep (fun _ h=>h) (fun b o hb=>World.cell?_of_block (hg.block b (hS b hb).1 (hS b hb).2))
theorem Sits.on {T:Type}{sh:Sh T}{S:Nat→Prop}{w w':World}{a:Option Addr}{xs:List T}(h:Sits sh S w a xs)(hb:Below w.heap.size w w')(hS:∀b,S b→b<w.heap.size):Sits sh S w' a xs:=
 h.keep (fun _ h=>h) (fun b o hbb=>hb.cell (p:=⟨b,o,none⟩) (hS b hbb))
theorem Sits.lo {T:Type}{sh:Sh T}{S:Nat→Prop}{w:World}{a:Option Addr}{xs:List T}{B:Nat}(h:Sits sh S w a xs)(hS:∀b,S b→b<B):Sits sh (Lo B) w a xs:=h.keep hS (fun _ _ _=>rfl)
end Pak
namespace Pak
open Go.ChangeShapes Go.WideShapes Go.RowKit Go.Deep
theorem flatten_len {k:Nat}:∀ {css:List (List Value)},(∀cs∈css,cs.length=k)→css.flatten.length=css.length*k
 | [],_=>by simp
 | c :: css,h=>by
  have:=flatten_len (css:=css) (fun cs hc=>h cs (List.mem_cons_of_mem _ hc))
  rw[List.flatten_cons,List.length_append,this,h c List.mem_cons_self,List.length_cons,Nat.succ_mul]
  omega
def partSh:Sh (Int×Int) where
 k:=2
 rel:=fun _ _ cs x=>cs=[.int .i64 x.1,.int .i64 x.2]∧i64 x.1∧i64 x.2
 len:=fun h=>by rw[h.1];rfl
 one:=fun h u hu=>by rw[h.1]at hu;simp at hu;rcases hu with rfl | rfl<;>rfl
 keep:=fun _ _ h=>h
def stepSh:Sh (List (Int×Int)×Int) where
 k:=2
 rel:=fun S w cs x=>∃v,cs=[v,.int .i64 x.2]∧i64 x.2∧Slot partSh S w v x.1
 len:=fun⟨v,h,_⟩=>by rw[h];rfl
 one:=fun⟨v,h,_,h2⟩ u hu=>by rw[h]at hu;simp at hu;rcases hu with rfl | rfl;exact h2.one;rfl
 keep:=fun hS hk ⟨v,h,hd,h2⟩=>⟨v,h,hd,h2.keep hS hk⟩
def lemSh:Sh (List Int×List (List (Int×Int)×Int)) where
 k:=2
 rel:=fun S w cs x=>∃v u,cs=[v,u]∧Slot intSh S w v x.1∧Slot stepSh S w u x.2
 len:=fun⟨v,u,h,_⟩=>by rw[h];rfl
 one:=fun⟨v,z,h,h2,h3⟩ u hu=>by rw[h]at hu;simp at hu;rcases hu with rfl | rfl;exact h2.one;exact h3.one
 keep:=fun hS hk ⟨v,u,h,h2,h3⟩=>⟨v,u,h,h2.keep hS hk,h3.keep hS hk⟩
theorem list_ofC {α:Type}(n:Nat)(p:Nat→α→Prop)(h:∀i,i<n→∃m,p i m):∃l:List α,l.length=n∧∀i (hi:i<l.length),p i l[i]:=by
 induction n with
 | zero=>exact⟨[],rfl,fun i hi=>absurd hi (Nat.not_lt_zero i)⟩
 | succ n ih=>
  obtain⟨l,hl,hp⟩:=ih (fun i hi=>h i (by omega))
  obtain⟨m,hm⟩:=h n (by omega)
  refine⟨l ++ [m],by simp[hl],fun i hi=> ?_⟩
  by_cases e:i<l.length
  ·rw[List.getElem_append_left e];exact hp i e
  ·have e2:i=l.length:=by simp at hi;omega
   subst e2
   simp only[List.getElem_concat_length]
   rw[hl];exact hm
section
variable {H:Type} {enc:TypeId×Value→H} {w:World} {base:Nat} {spare:Nat→Bool} {held:Bool}
variable (enc w base spare held) in
def Opn {T:Type}(sh:Sh T)(e:TypeId):Prop:=∀ {fuel:Nat} {cs:List Value} {x:DataW H×List MemPlace},DataW.trod enc Tryz.prog w base spare held fuel e cs=some x→∃y:T,sh.rel (Lo w.heap.size) w cs y
theorem open_row {T:Type}{sh:Sh T}{t e:TypeId}(ht:Tryz.prog.underlying t=some (.slice e))(hk:Tryz.prog.cellsOf e=sh.k)(hpos:0<sh.k)(ho:Opn enc w base spare held sh e){fuel:Nat}{cs:List Value}{x:DataW H×List MemPlace}(h:DataW.trod enc Tryz.prog w base spare held fuel t cs=some x):
  ∃a cap xs,cs=[.slice a xs.length cap]∧Sits sh (Lo w.heap.size) w a xs∧xs.length≤cap∧cap≤maxLen∧(a=none→cap=0):=by
 rcases open_slice ht h with ⟨h0,_⟩ | ⟨a,len,cap,m,n,D,Pl,hcs,_,hl,hm,hmm,_,hi⟩
 ·exact⟨none,0,[],h0,Sits.nil _ _ _ _,Nat.le_refl _,Nat.zero_le _,fun _=>rfl⟩
 ·have hlm:len≤m:=by rw[hmm];split<;>omega
  have hp:∀i,i<len→∃y:T,∃cs',(∀j u,cs'[j]? =some u→w.cell? (a.add (i*sh.k+j))=some u)∧sh.rel (Lo w.heap.size) w cs' y:=fun i hil=>by
   obtain⟨cs',hc,ht'⟩:=hi i (by omega)
   obtain⟨y,hy⟩:=ho ht'
   rw[hk]at hc
   obtain⟨_,hcl,hat⟩:=World.cells?_some hc
   refine⟨y,cs',fun j u hu=> ?_,hy⟩
   obtain⟨hj,rfl⟩:=List.getElem?_eq_some_iff.1 hu
   have:=hat j (by omega)
   rw[←Go.Deep.add_add]
   simpa [List.getElem?_eq_getElem hj]using this
  obtain⟨l,hll,hlp⟩:=list_ofC len _ hp
  obtain⟨b,off,sp⟩:=a
  have h63:maxLen=9223372036854775807:=rfl
  refine⟨some ⟨b,off,sp⟩,cap,l,by rw[hll];exact hcs,⟨by omega,fun i hil=> ?_⟩,by omega,hm,fun e=>by cases e⟩
  obtain⟨cs',h1,h2⟩:=hlp i hil
  have hlen:=sh.len h2
  have hc0:=h1 0 _ (List.getElem?_eq_getElem (by omega))
  have hsp:sp=none:=by
   obtain⟨cs0,h10,h20⟩:=hlp 0 (by omega)
   have hc00:=h10 0 _ (List.getElem?_eq_getElem (by have:=sh.len h20;omega))
   have:=World.cell?_spot hc00
   simpa [Addr.add]using this
  subst hsp
  rw[Go.WideShapes.add_plain]at hc0
  refine⟨b,off,cs',rfl,by simpa using block_lt_of_cell hc0,fun j u hu=> ?_,h2⟩
  have:=h1 j u hu
  rw[Go.WideShapes.add_plain]at this
  rwa [Nat.add_assoc]
theorem i64_of {x:Int}(h:(Lit.int .i64 x).wf=true):i64 x:=by
 have h2:=h
 unfold Lit.wf at h2
 rw[Bool.and_eq_true,decide_eq_true_eq,decide_eq_true_eq]at h2
 exact h2
theorem opn_int:Opn enc w base spare held intSh 3:=fun h=>by
 obtain⟨z,rfl,_,hw⟩:=DataW.trod_int Tryz.underlying3 h
 exact⟨z,rfl,i64_of hw⟩
theorem two_fields {t:TypeId}{f0 f1:Field}{fuel:Nat}{cs:List Value}{x:DataW H×List MemPlace}(ht:Tryz.prog.underlying t=some (.struct #[f0,f1]))(hk:Tryz.prog.cellsOf t=2)(h0:f0.offset=0∧Tryz.prog.cellsOf f0.type=1)(h1:f1.offset=1∧Tryz.prog.cellsOf f1.type=1)
  (h:DataW.trod enc Tryz.prog w base spare held fuel t cs=some x):∃c0 c1 y0 y1 n,cs=[c0,c1]∧DataW.trod enc Tryz.prog w base spare held n f0.type [c0]=some y0∧DataW.trod enc Tryz.prog w base spare held n f1.type [c1]=some y1:=by
 obtain⟨ys,n,_,_,hl,hyl,hf⟩:=DataW.trod_struct ht h
 rw[hk]at hl
 match cs,hl with
 | [c0,c1],_=>
  have a0:DataW.trod enc Tryz.prog w base spare held n f0.type (([c0,c1].drop f0.offset).take (Tryz.prog.cellsOf f0.type))=ys[0]? :=hf 0 _ rfl
  have a1:DataW.trod enc Tryz.prog w base spare held n f1.type (([c0,c1].drop f1.offset).take (Tryz.prog.cellsOf f1.type))=ys[1]? :=hf 1 _ rfl
  have hy:ys.length=2:=hyl
  rw[List.getElem?_eq_getElem (by omega)]at a0 a1
  rw[h0.1,h0.2]at a0
  rw[h1.1,h1.2]at a1
  exact⟨c0,c1,_,_,n,rfl,a0,a1⟩
theorem opn_part:Opn enc w base spare held partSh 193:=fun h=>by
 obtain⟨c0,c1,y0,y1,n,rfl,h0,h1⟩:=two_fields Tryz.underlying193 (by kernel_rfl) ⟨rfl,by kernel_rfl⟩ ⟨rfl,by kernel_rfl⟩ h
 obtain⟨z0,e0,_,w0⟩:=DataW.trod_int Tryz.underlying3 h0
 obtain⟨z1,e1,_,w1⟩:=DataW.trod_int Tryz.underlying3 h1
 injection e0 with e0
 injection e1 with e1
 subst e0 e1
 exact⟨⟨z0,z1⟩,rfl,i64_of w0,i64_of w1⟩
theorem opn_slot {T:Type}{sh:Sh T}{t e:TypeId}(ht:Tryz.prog.underlying t=some (.slice e))(hk:Tryz.prog.cellsOf e=sh.k)(hpos:0<sh.k)(ho:Opn enc w base spare held sh e){fuel:Nat}{c:Value}{x:DataW H×List MemPlace}(h:DataW.trod enc Tryz.prog w base spare held fuel t [c]=some x):∃xs,Slot sh (Lo w.heap.size) w c xs:=by
 obtain⟨a,cap,xs,e,hs,_⟩:=open_row ht hk hpos ho h
 injection e with e
 exact⟨xs,a,cap,e,hs⟩
theorem opn_step:Opn enc w base spare held stepSh 104:=fun h=>by
 obtain⟨c0,c1,y0,y1,n,rfl,h0,h1⟩:=two_fields Tryz.underlying104 (by kernel_rfl) ⟨rfl,by kernel_rfl⟩ ⟨rfl,by kernel_rfl⟩ h
 obtain⟨xs,hs⟩:=opn_slot (sh:=partSh) Tryz.underlying102 (by kernel_rfl) (by decide) opn_part h0
 obtain⟨z1,e1,_,w1⟩:=DataW.trod_int Tryz.underlying3 h1
 injection e1 with e1
 subst e1
 exact⟨⟨xs,z1⟩,_,rfl,i64_of w1,hs⟩
theorem opn_clause:Opn enc w base spare held clauseSh 23:=fun h=>by
 obtain⟨a,cap,xs,rfl,hs,_⟩:=open_row (sh:=intSh) Tryz.underlying23 (by kernel_rfl) (by decide) opn_int h
 exact⟨xs,_,rfl,a,cap,rfl,hs⟩
theorem opn_lem:Opn enc w base spare held lemSh 57:=fun h=>by
 obtain⟨c0,c1,y0,y1,n,rfl,h0,h1⟩:=two_fields Tryz.underlying57 (by kernel_rfl) ⟨rfl,by kernel_rfl⟩ ⟨rfl,by kernel_rfl⟩ h
 obtain⟨xs,hs⟩:=opn_slot (sh:=intSh) Tryz.underlying23 (by kernel_rfl) (by decide) opn_int h0
 obtain⟨ys,hs2⟩:=opn_slot (sh:=stepSh) Tryz.underlying55 (by kernel_rfl) (by decide) opn_step h1
 exact⟨⟨xs,ys⟩,_,_,rfl,hs,hs2⟩
end
end Pak
end Go.Proofs.YtipahfcaplbifaaGreatDoor
